import PyProof.Rows.All
import Wide.All
import OpenK.AllK
import Wide.FinOn
import PyProof.EqAt
import PyProof.EqKinds
import PyProof.TupleCall
import KE.KFromBytes
import KE.KExcSuper
import HandS.ForExc
import HandS.ExcInit
import HandS.ExcSuper
import KE.KExcIs
import HandS.ExcField
import HandS.ExcIs
import HandS.TryMany
import HandS.IsInst
import HandS.ForMost
import HandS.TupAny
import HandS.Text
import HandS.Walk
import HandS.Steps
import HandS.Zip
import PyProof.TypeEq
import PyProof.InstEq
import HandS.AnyAll
import HandS.SortInts
import HandS.Set
import HandS.SetFor
import HandS.Strs
import HandS.Style
import KE.KRevSl
import PyProof.StrOps2
import HandS.Iter
import KE.KDictPairs
import KE.GoesEnum
import KE.GoesMore
import PyProof.ReprLen
import PyProof.Rows.StrLast
import PyProof.P3Eq
import KE.KEqDict
import HandS.CallLocal
import HandS.FStr
import PySem.Challenge.RW_holekinds_k07_shown_by_own_printer
set_option Elab.async false
set_option linter.all false
set_option maxRecDepth 100000
set_option maxHeartbeats 4000000
/-! an own error class over HoleError over ValueError, whose __init__ says super().__init__(text) and stores what it is made with -/
namespace PySem
namespace ErrX
open PySem.W PySem.Calls PyProof.Rows PySem.HandSPX

/-- the text of __init__: its parameters, its first row, its stores -/
def eA (ps : List (Str × Pos)) : Arguments := { posonlyargs := [], args := ps.map fun p => { arg := p.1, annotation := none, pos := p.2 }, vararg := none, kwonlyargs := [], kw_defaults := [], kwarg := none, defaults := [] }
abbrev eSup (txt : Str) (p0 p1 p2 p3 p4 p5 : Pos) : Stmt := .Expr (.Call (.Attribute (.Call (.Name "super" p0) [] [] p1) "__init__" p2) [.Constant (.str txt) 0 p3] [] p4) p5
abbrev eSet (f : Str) (q0 q1 q2 q3 : Pos) : Stmt := .Assign [.Attribute (.Name "self" q0) f q1] (.Name f q2) q3
def eScope (ps : List Str) : Scope := { kind := .function, names := ps.map (fun x => (x, NameKind.local)) ++ [(Str.ofString "__class__", .free), (Str.ofString "super", .globalImplicit)], isGenerator := false, isCoroutine := false, more := [] }

abbrev pN (ps : List (Str × Pos)) : List Str := ps.map fun p => p.1
structure ErrTxt (main : PySem.Module) (K : Frag) (C fI : Addr) (ps : List (Str × Pos)) (body : List Stmt) : Prop where
  cls : ∃ nm q N bs bm sn sub ab col dd k0 k1 k2 k3 k5, K.lookup C = some (excClassObj nm q C N bs bm true sn sub ab col dd k0 k1 k2 k3 k5 "ValueError.__new__") ∧ refsVE bm = true
  sa : findIn K (.ref C) "__setattr__" = some (some (.builtin "object.__setattr__"))
  iC : findIn K (.ref C) "__init__" = some (some (.ref fI))
  tC : typeIn K (.ref fI) = some (.type "function")
  kC : keepIn K (.ref C) = true
  sub : mroIn K C (.ref C) = some true
  subV : subIn K (.ref C) (.type "ValueError") = some true
  sup : ks_superIn K C C "__init__" = some (some (.builtin "ValueError.__init__"))
  tp : nsIn K cStatics "thirdparty.any" = some none
  su : nsIn K mainGlobals "super" = some none
  top : (main.scope.names.lookup ("super" : Str)).isSome = false
  fn : ∃ (oc cl ccl : Value) (od cld cdd : Option Addr) (doc pm : Value) (an : Option Addr) (ct : Value) (osl csl ccs : Array (Option Value)) (cc cda : Addr) (qual : Str) (vs : Array Value) (file : Str) (tf : Tok),
    K.lookup fI = some ⟨oc, od, .func (ksFn "__init__" qual (eA ps) body (eScope (pN ps)) .none .none doc pm an (.ref cda) ct cc), osl⟩ ∧ codeIn K (.ref cda) qual = true ∧
    K.lookup cc = some ⟨cl, cld, .cell (some (.ref C)), csl⟩ ∧ K.lookup cda = some ⟨ccl, cdd, .fields vs, ccs⟩ ∧ vs[2]? = some (.str file tf) ∧ ((main.file : Str) == file) = true

section
variable {prog : Program} {w : World} {A : Around} {E : Value → Shared → Prop} {R : Result → Shared → Prop} {s : Shared} {K : Frag} {mg : Str → Option Value} {base : Heap} {C fI : Addr}
/-- the bound ValueError.__init__ is called: the args are laid anew -/
theorem call_mw {h : Heap} {g : Array GenState} {d : Drawn} {t : Nat} {os : OsState} {u e t0 : Addr} {rest : List Value} {Q : Value → Shared → Prop}
    {nm q : Str} {N : Addr} {bs bm : List Value} {hdct : Bool} {sn : List Str} {sub : List Value} {ab : Bool} {col : Option Bool} {dd : Option Addr} {k0 k1 k2 k3 k5 : Option Value}
    (hC : h.get? C = some (excClassObj nm q C N bs bm hdct sn sub ab col dd k0 k1 k2 k3 k5 "ValueError.__new__")) (he : h.get? e = some (HandSPX.excO C t0)) (hu : h.get? u = some (kxs_mw "ValueError.__init__" e)) (hrest : rest.length ≤ sizeLine)
    (hq : ∀ h' t1, (∀ b o, b ≠ e → h.get? b = some o → h'.get? b = some o) → h'.get? e = some (HandSPX.excO C t1) → Q .none ⟨h', g, d, t, os⟩) :
    wpAny (model prog w) A (call (.ref u) rest) Q E ⟨h, g, d, t, os⟩ := by
  refine wpAny_call (codeAny_of_tree ?_)
  show wpAny _ A.in1 (callAny (.ref u) ⟨rest, []⟩) _ _ _
  simp only [callAny]
  refine wpAny_bind (wpAny_load hu ?_)
  simp only [kxs_mw, show (Value.type "method-wrapper" == Value.type "method" || Value.type "method-wrapper" == Value.type "builtin_function_or_method" || Value.type "method-wrapper" == Value.type "method-wrapper") = true by decide, if_true]
  refine W.KFB.if_so (by decide) ?_
  refine wpAny_bind (check_bound_init F.excBase_ValueError.toExcCallFacts hC he rfl ?_)
  refine wpAny_bind (wpAny_pure (wpAny_pure ?_))
  refine ⟨plainId_quiet F.excBase_ValueError.init.plain _, codeAny_builtin F.excBase_ValueError.initEntry ?_⟩
  exact exc_init_tree (cls := .ref C) (t0 := t0) (dv := none) (c2 := .none) (c3 := .none) (b4 := .bool false) he hrest fun h' k e' _ => hq h' _ k e'

/-- how the row's call is read: its places stand on one line -/
def SupEq (txt : Str) (p0 p1 p2 p3 p4 : Pos) : Prop := ∀ env : Env, eval (.Call (.Attribute (.Call (.Name "super" p0) [] [] p1) "__init__" p2) [.Constant (.str txt) 0 p3] [] p4) env = (do
      let ov ← attributeBase (.Call (.Name "super" p0) [] [] p1) "__init__" env (eval (.Call (.Name "super" p0) [] [] p1) env)
      standAt p2.atName
      let (f, first) ← holding [ov] (getMethod ov "__init__" (do return (← importBound (.Call (.Name "super" p0) [] [] p1) env).getD true))
      callWith p4 f first (backTo p4 (starEach [.Constant (.str txt) 0 p3] env)) [])
/-- super().__init__(text): the rest of the body runs behind it -/
theorem sup_row {ps : List (Str × Pos)} {body body' : List Stmt} {txt : Str} {p0 p1 p2 p3 p4 p5 : Pos} {x t0 L : Addr} {m : Str → Option Value} {arS : Pos} {cc cda : Addr} {qual : Str} {oc cl ccl : Value} {od cld cdd : Option Addr} {doc pm : Value} {an : Option Addr} {ct : Value} {osl csl ccs : Array (Option Value)} {vs : Array Value} {file : Str} {tf : Tok} {Q : Flow → Shared → Prop}
    (T : ErrTxt prog.main K C fI ps body) (hps : ps.head? = some (Str.ofString "self", arS)) (hsc : (eScope (pN ps)).names.lookup ("super" : Str) = some .globalImplicit) (hcc : (eScope (pN ps)).names.lookup ("__class__" : Str) = some .free) (hss : (eScope (pN ps)).names.lookup ("self" : Str) = some .local)
    (heq : SupEq txt p0 p1 p2 p3 p4)
    (l1 : K.lookup fI = some ⟨oc, od, .func (ksFn "__init__" qual (eA ps) body (eScope (pN ps)) .none .none doc pm an (.ref cda) ct cc), osl⟩)
    (l2 : K.lookup cc = some ⟨cl, cld, .cell (some (.ref C)), csl⟩) (l3 : K.lookup cda = some ⟨ccl, cdd, .fields vs, ccs⟩) (hvs : vs[2]? = some (.str file tf)) (hfile : ((prog.main.file : Str) == file) = true)
    (hM : L2.Mod K mg base) (k0 : ∀ b o, base.get? b = some o → s.heap.get? b = some o) (hn : s.heap.Ns L m) (hx : m "self" = some (.ref x)) (hxo : s.heap.get? x = some (excO C t0))
    (h : ∀ h' tk t1, (∀ b o, b ≠ x → s.heap.get? b = some o → h'.get? b = some o) → h'.get? x = some (excO C t1) → Q .next { s with heap := h', toks := tk }) :
    _root_.PySem.wpAt (model prog w) A (.func body' (ksEnv qual (eScope (pN ps)) L fI (.ref cda) cc)) (exec (eSup txt p0 p1 p2 p3 p4 p5) (ksEnv qual (eScope (pN ps)) L fI (.ref cda) cc)) Q E s := by
  have X : K.In s.heap := hM.kin.keeps k0
  obtain ⟨mb, hb1, hb2⟩ := hM.blt
  obtain ⟨nm, q, N, bs, bm, sn, sub, ab, col, dd, kk0, kk1, kk2, kk3, kk5, hC, hbm⟩ := T.cls
  have hcl : clsIn K C = some { name := nm, bases := bs, mro := .ref C :: bm, ns := N, qualname := q, hasDict := true, slotNames := sn, subclasses := sub, abstract := ab, collection := col, hasDel := false } := by unfold clsIn; rw [hC] <;> rfl
  obtain ⟨hh, g, d, t, os⟩ := s
  refine ks_wpAt_Expr_any (hs := by rfl) (hi := by rfl) ?_
  refine ks_wpAt_MethodCall (args := [.Constant (.str txt) 0 p3]) ?_ (heq _)
  have har : (((ksFn "__init__" qual (eA ps) body (eScope (pN ps)) .none .none doc pm an (.ref cda) ct cc).params.posonlyargs ++ (ksFn "__init__" qual (eA ps) body (eScope (pN ps)) .none .none doc pm an (.ref cda) ct cc).params.args).head?) = some ({ arg := "self", annotation := none, pos := arS } : Arg) := by
    show (ps.map fun p => ({ arg := p.1, annotation := none, pos := p.2 } : Arg)).head? = _
    rw [List.head?_map, hps]
    rfl
  refine ks_wpAt_super_base (env := ksEnv qual (eScope (pN ps)) L fI (.ref cda) cc) (ar := { arg := "self", annotation := none, pos := arS }) hsc hcc rfl rfl (X _ _ l1) rfl har rfl (X _ _ l3) rfl hvs hfile T.top ?_
  refine ks_loadName_global rfl hsc (loadGlobal_builtin (env := ksEnv qual (eScope (pN ps)) L fI (.ref cda) cc) (hM.glob.keeps k0) (mg_none_of hM.kin hM.glob T.su) (hb1.keeps k0) ((hb2 _ (by decide +kernel)).trans (by kernel_rfl)) ⟨rfl, ?_⟩)
  refine wpAny_loadName_free rfl hcc rfl ⟨_, X _ _ l2, rfl⟩ ?_
  refine wpAny_loadName_local rfl hss hn hx ?_
  refine ks_wpAny_isType_cls (X _ _ hC) rfl ⟨rfl, ?_⟩
  have hx0 : hh.get? x = some (excO C t0) := hxo
  refine ks_wpAny_call_super (X _ _ hC) rfl hx0 rfl (fun c e => by cases e) (looks_mroIn X T.sub) (fun h2 e2 k2 => ?_)
  have hx2 := k2 _ _ hx0
  have X2 : K.In h2 := X.keeps k2
  have I2 : W.InstAt h2 x (excO C t0) C none := ⟨hx2, rfl, rfl, trivial⟩
  have hI : Looks (model prog w) h2 (isInstance (.ref x) (.type "ValueError")) true := I2.type.andThen (looks_subIn X2 T.subV)
  have hsup := T.sup
  unfold ks_superIn at hsup
  rw [hcl] at hsup
  refine kxs_getMethod kxs_ValueError e2 (looks_opaque X2 T.tp) (l₀ := .ref C :: bm) ((W.looks_clsIn X2 hcl).andThen .now) rfl X2 hsup hI (ks_ne X2 I2 hcl) rfl ?_
  have hx3 : (h2.push (kxs_mw "ValueError.__init__" x)).get? x = some (excO C t0) := Heap.get?_push_of_some _ hx2
  have hu3 : (h2.push (kxs_mw "ValueError.__init__" x)).get? h2.objs.size = some (kxs_mw "ValueError.__init__" x) := Heap.get?_push_at rfl rfl
  refine kxs_callWith (i := "ValueError.__init__") (x := x) (by rfl) (evalArgs_plain (Calls.spliced_cons (Calls.Constant_str (k := 0) (pos := p3) (Calls.spliced_nil ⟨hu3, ?_⟩))))
  show wpAny _ _ (call (.ref h2.objs.size) [Value.str txt _]) _ _ _
  refine call_mw (X2.keeps (fun b o e => Heap.get?_push_of_some _ e) _ _ hC) hx3 hu3 (by show 1 ≤ sizeLine; rw [sizeLine_eq]; omega) fun h' t1 k hx' => ?_
  exact h h' _ t1 (fun b o hb e => k b o hb (Heap.get?_push_of_some _ (k2 b o e))) hx'

/-- what __init__ leaves of a fresh exception at x: its dict at dx, with the fields m -/
structure InitEnd (h h' : Heap) (x C dx t1 : Addr) (m : Str → Option Value) : Prop where
  keep : ∀ b o, b ≠ x → h.get? b = some o → h'.get? b = some o
  obj : h'.get? x = some { cls := .ref C, dict := some dx, data := .fields #[.ref t1, .none, .none, .none, .bool false, .none] }
  dbig : h.objs.size ≤ dx
  dne : dx ≠ x
  ns : h'.Ns1 dx m
theorem ldX {M : Model} {s : Shared} {q : Str} {scope : Scope} {L a : Addr} {cd : Value} {cc : Addr} {m : Str → Option Value} {x : Str} {pos : Pos} {v : Value} {Q : Value → Shared → Prop} {A : Around} {E : Value → Shared → Prop} (hn : s.heap.Ns L m) (hv : m x = some v) (h : Q v s)
    (hk : scope.kind = .function) (hl : scope.names.lookup x = some .local) (hd : (x == ("__debug__" : Str)) = false) :
    wpAny M A (eval (.Name x pos) (ksEnv q scope L a cd cc)) Q E s := wpAny_Name (wpAny_loadName_local hk hl hn hv h) hd
abbrev bd1 (f : Str) (txt : Str) (p : Nat → Pos) : List Stmt := [eSup txt (p 0) (p 1) (p 2) (p 3) (p 4) (p 5), eSet f (p 6) (p 7) (p 8) (p 9)]
abbrev ps1 (f : Str) (a b : Pos) : List (Str × Pos) := [(Str.ofString "self", a), (f, b)]
/-- which names of the scope a field's name is not -/
structure FldOk (f : Str) : Prop where
  sc : (eScope [Str.ofString "self", f]).names.lookup ("super" : Str) = some .globalImplicit
  cl : (eScope [Str.ofString "self", f]).names.lookup ("__class__" : Str) = some .free
  se : (eScope [Str.ofString "self", f]).names.lookup ("self" : Str) = some .local
  fl : (eScope [Str.ofString "self", f]).names.lookup f = some .local
  ne : f ≠ Str.ofString "self"
  db : (f == ("__debug__" : Str)) = false
  noc : ∀ x ∈ (eScope [Str.ofString "self", f]).names, x.2 ≠ .cell
  bi : ∀ (qual : Str) (body : List Stmt) (sc : Scope) (doc pm : Value) (an : Option Addr) (cdv ct : Value) (cc : Addr) (a b : Pos) (u v : Value), bindArgs (ksFn "__init__" qual (eA (ps1 f a b)) body sc .none .none doc pm an cdv ct cc) ⟨[u, v], []⟩ = pure [(Str.ofString "self", u), (f, v)]
  bk : ∀ (qual : Str) (body : List Stmt) (sc : Scope) (doc pm : Value) (an : Option Addr) (cdv ct : Value) (cc : Addr) (a b : Pos) (u v : Value), bindArgs (ksFn "__init__" qual (eA (ps1 f a b)) body sc .none .none doc pm an cdv ct cc) ⟨[u], [(f, v)]⟩ = pure [(Str.ofString "self", u), (f, v)]
theorem init1 {f txt : Str} {p : Nat → Pos} {pa pb : Pos} {x t0 : Addr} {v : Value} (T : ErrTxt prog.main K C fI (ps1 f pa pb) (bd1 f txt p)) (FO : FldOk f) (hno : findIn K (.ref C) f = some none)
    (heq : SupEq txt (p 0) (p 1) (p 2) (p 3) (p 4)) (hM : L2.Mod K mg base) (k0 : ∀ b o, base.get? b = some o → s.heap.get? b = some o) (hx : s.heap.get? x = some (excO C t0)) (hnx : K.lookup x = none) (hroom : A.depth < recursionLimit)
    (args : Args) (hb : ∀ s' qual body sc doc pm an cdv ct cc, BindsTo s' (ksFn "__init__" qual (eA (ps1 f pa pb)) body sc .none .none doc pm an cdv ct cc) args [(Str.ofString "self", .ref x), (f, v)])
    (hq : ∀ h' tk dx t1, InitEnd s.heap h' x C dx t1 (fun y => if y = f then some v else none) → R (.ok (.ret .none)) { s with heap := h', toks := tk }) :
    codeAny (model prog w) A (.call (.ref fI) args) R s := by
  obtain ⟨oc, cl, ccl, od, cld, cdd, doc, pm, an, ct, osl, csl, ccs, cc, cda, qual, vs, file, tf, l1, hcd, l2, l3, hvs, hfile⟩ := T.fn
  have X : K.In s.heap := hM.kin.keeps k0
  refine ks_codeAny_call_defAt (fd := ksFn "__init__" qual (eA (ps1 f pa pb)) (bd1 f txt p) (eScope (pN (ps1 f pa pb))) .none .none doc pm an (.ref cda) ct cc) (body := bd1 f txt p) (binds := [(Str.ofString "self", .ref x), (f, v)])
    hroom (X _ _ l1) rfl (hM.nolimit.keeps k0) (codeRec_of X hcd) rfl (hb _ _ _ _ _ _ _ _ _ _) FO.noc ?_ (fun h₁ hns hk₁ => ?_) rfl rfl rfl
  · intro y hy
    rcases List.mem_cons.mp hy with rfl | hy
    · exact FO.se
    · rcases List.mem_cons.mp hy with rfl | hy
      · exact FO.fl
      · cases hy
  have hnf : ((Str.ofString "self") == f) = false := by simpa using (Ne.symm FO.ne)
  have hm1 : (fun y => List.lookup y ([(Str.ofString "self", Value.ref x), (f, v)] : List (Str × Value)).reverse) (Str.ofString "self") = some (.ref x) := by
    show List.lookup (Str.ofString "self") [(f, v), (Str.ofString "self", Value.ref x)] = _
    simp [List.lookup, hnf]
  have hm2 : (fun y => List.lookup y ([(Str.ofString "self", Value.ref x), (f, v)] : List (Str × Value)).reverse) f = some v := by
    show List.lookup f [(f, v), (Str.ofString "self", Value.ref x)] = _
    simp [List.lookup]
  have hxL : s.heap.objs.size ≠ x := Nat.ne_of_gt (Heap.lt_size hx)
  refine ks_wpAt_execs_cons (sup_row (s := { s with heap := h₁, toks := s.toks + _ }) T rfl FO.sc FO.cl FO.se heq l1 l2 l3 hvs hfile hM (fun b o e => hk₁ b o (k0 b o e)) hns hm1 (hk₁ _ _ hx) fun h2 tk2 t1 k2 hx2 => ?_)
  show _root_.PySem.wpAt _ _ _ (execs _ _) _ _ _
  refine wpAt_of_wpAny (wpAny_execs_cons (plainObj_wpAny_Assign_Attribute ?_ (by rfl)))
  have hns2 : h2.Ns s.heap.objs.size (fun y => List.lookup y ([(Str.ofString "self", Value.ref x), (f, v)] : List (Str × Value)).reverse) := by
    obtain ⟨oL, es, ep, hL, r⟩ := hns
    exact ⟨oL, es, ep, k2 _ _ hxL hL, r⟩
  obtain ⟨nm, q, N, bs, bm, sn, sub, ab, col, dd, kk0, kk1, kk2, kk3, kk5, hC, hbm⟩ := T.cls
  have hcl : clsIn K C = some { name := nm, bases := bs, mro := .ref C :: bm, ns := N, qualname := q, hasDict := true, slotNames := sn, subclasses := sub, abstract := ab, collection := col, hasDel := false } := by unfold clsIn; rw [hC] <;> rfl
  refine ldX (v := v) hns2 hm2 ?_ rfl FO.fl FO.db
  refine ldX (v := .ref x) hns2 hm1 ?_ rfl FO.se (by decide +kernel)
  have nxK : ∀ b o, K.lookup b = some o → b ≠ x := fun b o e z => by rw [z, hnx] at e; cases e
  have X2 : K.In h2 := fun b o e => k2 b o (nxK b o e) (hk₁ b o (X b o e))
  refine set_plain X2 (ox := excO C t1) (od := none) ⟨hx2, rfl, rfl, trivial⟩ T.sa ?_
  refine exc_osa X2 hx2 hcl (show refsVE (.ref C :: bm) = true from hbm) rfl hno (fun h3 tk3 dx k3 dn dne hx3 hn3 => ?_)
  show wpAny _ _ (execs _ _) _ _ _
  refine wpAny_execs_nil (hq h3 tk3 dx t1 ⟨fun b o hb e => k3 b o hb (k2 b o hb (hk₁ b o e)), hx3, Nat.le_of_lt (Nat.lt_of_lt_of_le hns2.lt dn), dne, hn3⟩)

/-! two fields -/
abbrev bd2 (f1 f2 : Str) (txt : Str) (p : Nat → Pos) : List Stmt := [eSup txt (p 0) (p 1) (p 2) (p 3) (p 4) (p 5), eSet f1 (p 6) (p 7) (p 8) (p 9), eSet f2 (p 10) (p 11) (p 12) (p 13)]
abbrev ps2 (f1 f2 : Str) (a b c : Pos) : List (Str × Pos) := [(Str.ofString "self", a), (f1, b), (f2, c)]
structure Fld2 (f1 f2 : Str) : Prop where
  bi : ∀ (qual : Str) (body : List Stmt) (sc : Scope) (doc pm : Value) (an : Option Addr) (cdv ct : Value) (cc : Addr) (a b c : Pos) (u v w : Value), bindArgs (ksFn "__init__" qual (eA (ps2 f1 f2 a b c)) body sc .none .none doc pm an cdv ct cc) ⟨[u, v, w], []⟩ = pure [(Str.ofString "self", u), (f1, v), (f2, w)]
  bk : ∀ (qual : Str) (body : List Stmt) (sc : Scope) (doc pm : Value) (an : Option Addr) (cdv ct : Value) (cc : Addr) (a b c : Pos) (u v w : Value), bindArgs (ksFn "__init__" qual (eA (ps2 f1 f2 a b c)) body sc .none .none doc pm an cdv ct cc) ⟨[u], [(f2, w), (f1, v)]⟩ = pure [(Str.ofString "self", u), (f1, v), (f2, w)]
  sc : (eScope [Str.ofString "self", f1, f2]).names.lookup ("super" : Str) = some .globalImplicit
  cl : (eScope [Str.ofString "self", f1, f2]).names.lookup ("__class__" : Str) = some .free
  se : (eScope [Str.ofString "self", f1, f2]).names.lookup ("self" : Str) = some .local
  fl1 : (eScope [Str.ofString "self", f1, f2]).names.lookup f1 = some .local
  fl2 : (eScope [Str.ofString "self", f1, f2]).names.lookup f2 = some .local
  ne1 : f1 ≠ Str.ofString "self"
  ne2 : f2 ≠ Str.ofString "self"
  ne12 : f1 ≠ f2
  db1 : (f1 == ("__debug__" : Str)) = false
  db2 : (f2 == ("__debug__" : Str)) = false
  noc : ∀ x ∈ (eScope [Str.ofString "self", f1, f2]).names, x.2 ≠ .cell
theorem init2 {f1 f2 txt : Str} {p : Nat → Pos} {pa pb pc : Pos} {x t0 : Addr} {v1 v2 : Value} (T : ErrTxt prog.main K C fI (ps2 f1 f2 pa pb pc) (bd2 f1 f2 txt p)) (FO : Fld2 f1 f2) (hno1 : findIn K (.ref C) f1 = some none) (hno2 : findIn K (.ref C) f2 = some none)
    (heq : SupEq txt (p 0) (p 1) (p 2) (p 3) (p 4)) (hM : L2.Mod K mg base) (k0 : ∀ b o, base.get? b = some o → s.heap.get? b = some o) (hx : s.heap.get? x = some (excO C t0)) (hnx : K.lookup x = none) (hroom : A.depth < recursionLimit)
    (args : Args) (hb : ∀ s' qual body sc doc pm an cdv ct cc, BindsTo s' (ksFn "__init__" qual (eA (ps2 f1 f2 pa pb pc)) body sc .none .none doc pm an cdv ct cc) args [(Str.ofString "self", .ref x), (f1, v1), (f2, v2)])
    (hq : ∀ h' tk dx t1, InitEnd s.heap h' x C dx t1 (fun y => if y = f2 then some v2 else if y = f1 then some v1 else none) → R (.ok (.ret .none)) { s with heap := h', toks := tk }) :
    codeAny (model prog w) A (.call (.ref fI) args) R s := by
  obtain ⟨oc, cl, ccl, od, cld, cdd, doc, pm, an, ct, osl, csl, ccs, cc, cda, qual, vs, file, tf, l1, hcd, l2, l3, hvs, hfile⟩ := T.fn
  have X : K.In s.heap := hM.kin.keeps k0
  refine ks_codeAny_call_defAt (fd := ksFn "__init__" qual (eA (ps2 f1 f2 pa pb pc)) (bd2 f1 f2 txt p) (eScope (pN (ps2 f1 f2 pa pb pc))) .none .none doc pm an (.ref cda) ct cc) (body := bd2 f1 f2 txt p) (binds := [(Str.ofString "self", .ref x), (f1, v1), (f2, v2)])
    hroom (X _ _ l1) rfl (hM.nolimit.keeps k0) (codeRec_of X hcd) rfl (hb _ _ _ _ _ _ _ _ _ _) FO.noc ?_ (fun h₁ hns hk₁ => ?_) rfl rfl rfl
  · intro y hy
    rcases List.mem_cons.mp hy with rfl | hy
    · exact FO.se
    · rcases List.mem_cons.mp hy with rfl | hy
      · exact FO.fl1
      · rcases List.mem_cons.mp hy with rfl | hy
        · exact FO.fl2
        · cases hy
  have hnf1 : ((Str.ofString "self") == f1) = false := by simpa using (Ne.symm FO.ne1)
  have hnf2 : ((Str.ofString "self") == f2) = false := by simpa using (Ne.symm FO.ne2)
  have hn12 : (f1 == f2) = false := by simpa using FO.ne12
  have hm1 : (fun y => List.lookup y ([(Str.ofString "self", Value.ref x), (f1, v1), (f2, v2)] : List (Str × Value)).reverse) (Str.ofString "self") = some (.ref x) := by
    show List.lookup (Str.ofString "self") [(f2, v2), (f1, v1), (Str.ofString "self", Value.ref x)] = _
    simp [List.lookup, hnf1, hnf2]
  have hm2 : (fun y => List.lookup y ([(Str.ofString "self", Value.ref x), (f1, v1), (f2, v2)] : List (Str × Value)).reverse) f1 = some v1 := by
    show List.lookup f1 [(f2, v2), (f1, v1), (Str.ofString "self", Value.ref x)] = _
    simp [List.lookup, hn12]
  have hm3 : (fun y => List.lookup y ([(Str.ofString "self", Value.ref x), (f1, v1), (f2, v2)] : List (Str × Value)).reverse) f2 = some v2 := by
    show List.lookup f2 [(f2, v2), (f1, v1), (Str.ofString "self", Value.ref x)] = _
    simp [List.lookup]
  have hxL : s.heap.objs.size ≠ x := Nat.ne_of_gt (Heap.lt_size hx)
  refine ks_wpAt_execs_cons (sup_row (s := { s with heap := h₁, toks := s.toks + _ }) T rfl FO.sc FO.cl FO.se heq l1 l2 l3 hvs hfile hM (fun b o e => hk₁ b o (k0 b o e)) hns hm1 (hk₁ _ _ hx) fun h2 tk2 t1 k2 hx2 => ?_)
  show _root_.PySem.wpAt _ _ _ (execs _ _) _ _ _
  refine wpAt_of_wpAny (wpAny_execs_cons (plainObj_wpAny_Assign_Attribute ?_ (by rfl)))
  have hns2 : h2.Ns s.heap.objs.size (fun y => List.lookup y ([(Str.ofString "self", Value.ref x), (f1, v1), (f2, v2)] : List (Str × Value)).reverse) := by
    obtain ⟨oL, es, ep, hL, r⟩ := hns
    exact ⟨oL, es, ep, k2 _ _ hxL hL, r⟩
  obtain ⟨nm, q, N, bs, bm, sn, sub, ab, col, dd, kk0, kk1, kk2, kk3, kk5, hC, hbm⟩ := T.cls
  have hcl : clsIn K C = some { name := nm, bases := bs, mro := .ref C :: bm, ns := N, qualname := q, hasDict := true, slotNames := sn, subclasses := sub, abstract := ab, collection := col, hasDel := false } := by unfold clsIn; rw [hC] <;> rfl
  refine ldX (v := v1) hns2 hm2 ?_ rfl FO.fl1 FO.db1
  refine ldX (v := .ref x) hns2 hm1 ?_ rfl FO.se (by decide +kernel)
  have nxK : ∀ b o, K.lookup b = some o → b ≠ x := fun b o e z => by rw [z, hnx] at e; cases e
  have X2 : K.In h2 := fun b o e => k2 b o (nxK b o e) (hk₁ b o (X b o e))
  refine set_plain X2 (ox := excO C t1) (od := none) ⟨hx2, rfl, rfl, trivial⟩ T.sa ?_
  refine exc_osa X2 hx2 hcl (show refsVE (.ref C :: bm) = true from hbm) rfl hno1 (fun h3 tk3 dx k3 dn dne hx3 hn3 => ?_)
  show wpAny _ _ (execs _ _) _ _ _
  have X3 : K.In h3 := fun b o e => k3 b o (nxK b o e) (X2 b o e)
  have hns3 : h3.Ns s.heap.objs.size (fun y => List.lookup y ([(Str.ofString "self", Value.ref x), (f1, v1), (f2, v2)] : List (Str × Value)).reverse) := by
    obtain ⟨oL, es, ep, hL, r⟩ := hns2
    exact ⟨oL, es, ep, k3 _ _ hxL hL, r⟩
  refine wpAny_execs_cons (plainObj_wpAny_Assign_Attribute ?_ (by rfl))
  refine ldX (v := v2) hns3 hm3 ?_ rfl FO.fl2 FO.db2
  refine ldX (v := .ref x) hns3 hm1 ?_ rfl FO.se (by decide +kernel)
  obtain ⟨oD, esD, epD, hoD, hdD⟩ := id hn3
  have hw : Within (fun y => if y = f1 then some v1 else none) [f1] := Within.cons f1 v1 Within.nil
  refine set_plain X3 (ox := { cls := .ref C, dict := some dx, data := .fields #[.ref t1, .none, .none, .none, .bool false, .none] }) (od := some oD) ⟨hx3, rfl, rfl, hoD⟩ T.sa ?_
  refine PySem.OEX.osa_old X3 hx3 hn3 hw (by show 1 ≤ 1000; decide) hcl (show refsVE (.ref C :: bm) = true from hbm) rfl hno2 (fun h4 tk4 k4 hn4 => ?_)
  show wpAny _ _ (execs _ _) _ _ _
  refine wpAny_execs_nil (hq h4 tk4 dx t1 ⟨fun b o hb e => k4 b o ?_ (k3 b o hb (k2 b o hb (hk₁ b o e))), k4 _ _ dne.symm hx3, Nat.le_of_lt (Nat.lt_of_lt_of_le hns2.lt dn), dne, hn4⟩)
  exact Nat.ne_of_lt (Nat.lt_of_lt_of_le (Heap.lt_size (k2 b o hb (hk₁ b o e))) dn)
end
end ErrX
end PySem
set_option Elab.async false
set_option linter.all false
set_option maxRecDepth 100000
set_option maxHeartbeats 4000000
namespace PySem
namespace ErrX
open PySem.W PySem.Calls PyProof.Rows PySem.HandSPX
/-! ### such a class called, keywords too -/
section
variable {M : Model} {A : Around} {E : Value → Shared → Prop} {h : Heap} {g : Array GenState} {d : Drawn} {t : Nat} {os : OsState}
variable {nm q : Str} {C N : Addr} {bs bm bmB : List Value} {hdct : Bool} {sn : List Str} {sub : List Value} {ab : Bool} {col : Option Bool} {dd : Option Addr} {k0 k1 k2 k3 k5 : Option Value} {B newId initId : String}
theorem check_newK (F : ExcBaseFacts B newId initId bmB) (hT : ∀ X : String, bm.contains (.type X) = bmB.contains (.type X)) {rest : List Value} {kw : List (Str × Value)} {Q : Unit → Shared → Prop}
    (hC : h.get? C = some (excClassObj nm q C N bs bm hdct sn sub ab col dd k0 k1 k2 k3 k5 newId)) (hq : Q () ⟨h, g, d, t, os⟩) : wpAny M A (checkBuiltinCall newId ⟨.ref C :: rest, kw⟩) Q E ⟨h, g, d, t, os⟩ := by
  have hcont : (Value.ref C :: bm).contains (.type B) = true := by rw [List.contains_cons, hT, F.hasB, Bool.or_true]
  have hstar := F.noStar
  simp only [checkBuiltinCall, F.newKind, F.newSplit, F.newRow]
  repeat (first | refine wpAny_loadPart_at hC ?_ | (refine wpAny_isSubtype_exc hC ?_; rw [hcont]) | refine wpAny_staticBase_exc hC ?_ | refine wpAny_madeBy_exc hC ?_ | simp only [bne_self_eq_false, Bool.false_eq_true, if_false] | wp_step)
  exact hq
end
section
variable {prog : Program} {w : World} {A : Around} {E : Value → Shared → Prop} {R : Result → Shared → Prop} {h : Heap} {g : Array GenState} {d : Drawn} {t : Nat} {os : OsState}
variable {nm q : Str} {C N : Addr} {bs bm bmB : List Value} {hdct : Bool} {sn : List Str} {sub : List Value} {ab : Bool} {col : Option Bool} {dd : Option Addr} {k0 k1 k2 k3 k5 : Option Value} {B newId initId : String}
theorem new_K (F : ExcBaseFacts B newId initId bmB) (hT : ∀ X : String, bm.contains (.type X) = bmB.contains (.type X)) {rest : List Value} {kw : List (Str × Value)}
    (hC : h.get? C = some (excClassObj nm q C N bs bm hdct sn sub ab col dd k0 k1 k2 k3 k5 newId))
    (hq : R (.ok (.ret (.ref (h.objs.size + 1)))) ⟨(h.push { cls := .type "tuple", data := .seq rest.toArray }).push
      { cls := .ref C, data := .fields #[.ref h.objs.size, .none, .none, .none, .bool false, .none] }, g, d, t, os⟩) (hrest : rest.length ≤ sizeLine) :
    codeAny (model prog w) A (.builtin newId ⟨.ref C :: rest, kw⟩) R ⟨h, g, d, t, os⟩ := by
  have hends := F.ends
  have hcB : (Value.ref C :: bm).contains (.type B) = true := by rw [List.contains_cons, hT, F.hasB, Bool.or_true]
  have hcA : (Value.ref C :: bm).contains (.type "AttributeError") = false := by rw [List.contains_cons, hT, F.noAttr]; rfl
  have hcN : (Value.ref C :: bm).contains (.type "NameError") = false := by rw [List.contains_cons, hT, F.noName]; rfl
  refine codeAny_builtinAt F.entry ?_
  unfold Builtin.«BaseException.__new__»
  refine wpAt_bind ?_
  show wpAt _ _ _ (stack >>= _) _ _ _
  refine wpAt_bind (wpAt_stack fun p below => wpAt_of_wpAny ?_)
  wp_walk
  refine wpAt_of_wpAny ?_
  rw [F.owner]
  repeat (first | with_reducible refine wpAny_madeHere_exc F.canon hC ?_ | with_reducible refine wpAny_loadPart_at hC ?_ | (with_reducible refine wpAny_isSubtype_exc hC ?_; first | rw [hcB] | rw [hcA] | rw [hcN]) | wp_step)
  show R _ _
  rw [Heap.size_push]
  exact hq
theorem type_callK (F : ExcBaseFacts B newId initId bmB) (hT : ∀ X : String, bm.contains (.type X) = bmB.contains (.type X)) {rest : List Value} {kw : List (Str × Value)} {fI : Addr} {Q : Fin → Shared → Prop}
    (hC : h.get? C = some (excClassObj nm q C N bs bm hdct sn sub ab col dd k0 k1 k2 k3 k5 newId))
    (hi : W.Looks (model prog w) h (typeLookup (.ref C) "__init__") (some (.ref fI))) (hb : ∀ self, W.Looks (model prog w) h (bindSpecial (.ref fI) self) (.ref fI, [self])) (hrest : rest.length ≤ sizeLine)
    (hq : codeAny (model prog w) A (.call (.ref fI) ⟨.ref (h.objs.size + 1) :: rest, kw⟩)
      (fun r s' => match r with | .ok (.ret v) => v = .none ∧ Q (.done (.ret (.ref (h.objs.size + 1)))) s' | .ok _ => False | .error e => E e s')
      ⟨(h.push (W.kdv_tup rest)).push (excO C h.objs.size), g, d, t, os⟩) :
    wpAny (model prog w) A (Builtin.«type.__call__» ⟨.ref C :: rest, kw⟩) Q E ⟨h, g, d, t, os⟩ := by
  repeat (first | with_reducible refine wpAny_loadPart_at hC ?_ | with_reducible refine wpAny_madeBy_exc hC ?_ | wp_step)
  refine codeAny_call_builtin_code (Code.quiet_builtin _ F.quiet) (check_newK F hT hC ?_)
  refine new_K F hT hC ?_ hrest
  show wpAny _ _ _ _ _ _
  have k : ∀ b o, h.get? b = some o → ((h.push (W.kdv_tup rest)).push (excO C h.objs.size)).get? b = some o := fun b o e => Heap.get?_push_of_some _ (Heap.get?_push_of_some _ e)
  have hC₁ := k _ _ hC
  have hget : ((h.push (W.kdv_tup rest)).push (excO C h.objs.size)).get? (h.objs.size + 1) = some (excO C h.objs.size) := by heap_get
  have hcC : (Value.ref C :: bm).contains (.ref C) = true := by simp
  have i1 := hi.keeps k
  have b1 := (hb (.ref (h.objs.size + 1))).keeps k
  unfold isInstance
  repeat (first | with_reducible refine wpAny_loadPart_at hget ?_ | (with_reducible refine wpAny_isSubtype_exc hC₁ ?_; rw [hcC]) | wp_step)
  show wpAny _ _ (typeLookup (.ref C) _) _ _ _
  refine i1.at ?_
  refine wpAny_holding (wpAny_bind (b1.at ?_))
  refine wpAny_bind (wpAny_call (codeAny_mono hq fun r s' z => ?_))
  rcases r with e | (v | _ | _ | _) <;> first | exact z | exact z.elim | skip
  obtain ⟨rfl, z⟩ := z
  first
    | exact wpAny_pure (wpAny_pure z)
    | (wp_walk; exact z)
theorem call_K (F : ExcBaseFacts B newId initId bmB) (hT : ∀ X : String, bm.contains (.type X) = bmB.contains (.type X)) {rest : List Value} {kw : List (Str × Value)} {fI : Addr}
    (hC : h.get? C = some (excClassObj nm q C N bs bm hdct sn sub ab col dd k0 k1 k2 k3 k5 newId))
    (hi : W.Looks (model prog w) h (typeLookup (.ref C) "__init__") (some (.ref fI))) (hb : ∀ self, W.Looks (model prog w) h (bindSpecial (.ref fI) self) (.ref fI, [self])) (hrest : rest.length ≤ sizeLine)
    (hq : codeAny (model prog w) (A.under (.builtin "type.__call__" ⟨.ref C :: rest, kw⟩)) (.call (.ref fI) ⟨.ref (h.objs.size + 1) :: rest, kw⟩) (W.InitBack (h.objs.size + 1) R)
      ⟨(h.push (W.kdv_tup rest)).push (excO C h.objs.size), g, d, t, os⟩) :
    codeAny (model prog w) A (.call (.ref C) ⟨rest, kw⟩) R ⟨h, g, d, t, os⟩ := by
  have f1 := tc_lookup
  have f2 := tc_bind (.ref C)
  have hTy : (⟨h, g, d, t, os⟩ : Shared).TypeIs (.ref C) "type" := ⟨_, hC, rfl⟩
  refine codeAny_of_tree ?_
  show wpAny _ _ (callAny (.ref C) _) _ _ _
  repeat (any_goals (first | assumption | with_reducible refine wpAny_loadPart_at hC ?_ | wp_step))
  refine ⟨rfl, ?_⟩
  refine codeAny_call_builtin_at (Code.quiet_builtin _ (by decide +kernel)) entry_typeCall (wpAny_check_type_call_sub hC (type_callK F hT hC hi hb hrest ?_))
  refine codeAny_mono hq fun r s' z => ?_
  rcases r with e | (v | _ | _ | _) <;> exact z
end

/-- what stands behind the making of such an error -/
structure ErMade (h h' : Heap) (e C d : Addr) (m : Str → Option Value) : Prop where
  keep : ∀ b o, h.get? b = some o → h'.get? b = some o
  new : h.objs.size ≤ e
  obj : ∃ t1 : Addr, h'.get? e = some { cls := .ref C, dict := some d, data := .fields #[.ref t1, .none, .none, .none, .bool false, .none] }
  dbig : h.objs.size ≤ d
  dne : d ≠ e
  ns : h'.Ns1 d m
section
variable {prog : Program} {w : World} {A : Around} {R : Result → Shared → Prop} {s : Shared} {K : Frag} {mg : Str → Option Value} {base : Heap} {C fI : Addr}
theorem made_of {m : Str → Option Value} {us : List Value} {kw : List (Str × Value)} {ps : List (Str × Pos)} {body : List Stmt} (T : ErrTxt prog.main K C fI ps body)
    (hM : L2.Mod K mg base) (k0 : ∀ b o, base.get? b = some o → s.heap.get? b = some o) (hroom : A.depth + 1 < recursionLimit) (hl : us.length ≤ sizeLine)
    (hI : ∀ (s' : Shared) (A' : Around) (R' : Result → Shared → Prop) (x t0 : Addr), (∀ b o, base.get? b = some o → s'.heap.get? b = some o) → s'.heap.get? x = some (excO C t0) → K.lookup x = none → A'.depth < recursionLimit →
      (∀ h' tk dx t1, InitEnd s'.heap h' x C dx t1 m → R' (.ok (.ret .none)) { s' with heap := h', toks := tk }) → codeAny (model prog w) A' (.call (.ref fI) ⟨.ref x :: us, kw⟩) R' s')
    (hq : ∀ h' tk e d, ErMade s.heap h' e C d m → R (.ok (.ret (.ref e))) { s with heap := h', toks := tk }) :
    codeAny (model prog w) A (.call (.ref C) ⟨us, kw⟩) R s := by
  obtain ⟨nm, q, N, bs, bm, sn, sub, ab, col, dd, kk0, kk1, kk2, kk3, kk5, hC, hbm⟩ := T.cls
  have X : K.In s.heap := hM.kin.keeps k0
  obtain ⟨hp, g, dr, tk, os⟩ := s
  have k : ∀ b o, hp.get? b = some o → ((hp.push (kdv_tup us)).push (excO C hp.objs.size)).get? b = some o := fun b o e => Heap.get?_push_of_some _ (Heap.get?_push_of_some _ e)
  have hget : ((hp.push (kdv_tup us)).push (excO C hp.objs.size)).get? (hp.objs.size + 1) = some (excO C hp.objs.size) := by heap_get
  have hnx : K.lookup (hp.objs.size + 1) = none := by
    cases e : K.lookup (hp.objs.size + 1) with
    | none => rfl
    | some o =>
      have z : hp.get? (hp.objs.size + 1) = some o := X _ _ e
      exact absurd (Nat.lt_of_succ_lt (Heap.lt_size z)) (Nat.lt_irrefl _)
  refine call_K F.excBase_ValueError (fun X => refsVE_contains X bm hbm) (X _ _ hC) (looks_findIn X T.iC) (fun self => bind_fn X self T.tC) hl ?_
  refine hI ⟨(hp.push (kdv_tup us)).push (excO C hp.objs.size), g, dr, tk, os⟩ _ _ _ _ (fun b o e => k b o (k0 b o e)) hget hnx ?_ fun h' tk' dx t1 ⟨k', hx, dn, dne, hns⟩ => ?_
  · show A.depth + 1 < recursionLimit
    exact hroom
  · have old : ∀ b o, hp.get? b = some o → h'.get? b = some o := fun b o e => k' b o (Nat.ne_of_lt (Nat.lt_succ_of_lt (Heap.lt_size e))) (k b o e)
    have z : hp.objs.size + 1 + 1 ≤ dx := by
      first
        | (simpa only [Heap.size_push] using dn)
        | exact dn
        | (have q := dn; rw [Heap.size_push, Heap.size_push] at q; exact q)
    exact ⟨rfl, hq h' tk' (hp.objs.size + 1) dx ⟨old, Nat.le_succ _, ⟨t1, hx⟩, Nat.le_trans (Nat.le_trans (Nat.le_succ _) (Nat.le_succ _)) z, dne, hns⟩⟩
theorem made1 {f txt : Str} {p : Nat → Pos} {pa pb : Pos} {us : List Value} {kw : List (Str × Value)} {v : Value} (T : ErrTxt prog.main K C fI (ps1 f pa pb) (bd1 f txt p)) (FO : FldOk f) (hno : findIn K (.ref C) f = some none)
    (heq : SupEq txt (p 0) (p 1) (p 2) (p 3) (p 4)) (hM : L2.Mod K mg base) (k0 : ∀ b o, base.get? b = some o → s.heap.get? b = some o) (hroom : A.depth + 1 < recursionLimit) (hl : us.length ≤ sizeLine)
    (hb : ∀ x s' qual body sc doc pm an cdv ct cc, BindsTo s' (ksFn "__init__" qual (eA (ps1 f pa pb)) body sc .none .none doc pm an cdv ct cc) ⟨.ref x :: us, kw⟩ [(Str.ofString "self", .ref x), (f, v)])
    (hq : ∀ h' tk e d, ErMade s.heap h' e C d (fun y => if y = f then some v else none) → R (.ok (.ret (.ref e))) { s with heap := h', toks := tk }) :
    codeAny (model prog w) A (.call (.ref C) ⟨us, kw⟩) R s :=
  made_of T hM k0 hroom hl (fun s' A' R' x t0 k0' hx hnx hr hq' => init1 T FO hno heq hM k0' hx hnx hr _ (hb x) hq') hq
theorem made2 {f1 f2 txt : Str} {p : Nat → Pos} {pa pb pc : Pos} {us : List Value} {kw : List (Str × Value)} {v1 v2 : Value} (T : ErrTxt prog.main K C fI (ps2 f1 f2 pa pb pc) (bd2 f1 f2 txt p)) (FO : Fld2 f1 f2) (hno1 : findIn K (.ref C) f1 = some none) (hno2 : findIn K (.ref C) f2 = some none)
    (heq : SupEq txt (p 0) (p 1) (p 2) (p 3) (p 4)) (hM : L2.Mod K mg base) (k0 : ∀ b o, base.get? b = some o → s.heap.get? b = some o) (hroom : A.depth + 1 < recursionLimit) (hl : us.length ≤ sizeLine)
    (hb : ∀ x s' qual body sc doc pm an cdv ct cc, BindsTo s' (ksFn "__init__" qual (eA (ps2 f1 f2 pa pb pc)) body sc .none .none doc pm an cdv ct cc) ⟨.ref x :: us, kw⟩ [(Str.ofString "self", .ref x), (f1, v1), (f2, v2)])
    (hq : ∀ h' tk e d, ErMade s.heap h' e C d (fun y => if y = f2 then some v2 else if y = f1 then some v1 else none) → R (.ok (.ret (.ref e))) { s with heap := h', toks := tk }) :
    codeAny (model prog w) A (.call (.ref C) ⟨us, kw⟩) R s :=
  made_of T hM k0 hroom hl (fun s' A' R' x t0 k0' hx hnx hr hq' => init2 T FO hno1 hno2 heq hM k0' hx hnx hr _ (hb x) hq') hq
end
end ErrX
end PySem
set_option Elab.async false
set_option linter.all false
set_option maxRecDepth 100000
set_option maxHeartbeats 4000000
namespace L2
open PySem PySem.Spec PyProof.Rows PySem.ErrX
/-! ### two new objects laid at once -/
section
variable {X : Cx} {pins : List (Addr × Obj)} {σ : St} {H : Hp} {s : Shared}
theorem Inv.lay2 {h' : Heap} {a d : Addr} {oa od : HO} {t' : Nat} (I : Inv X pins σ H s) (k : ∀ b u, s.heap.get? b = some u → h'.get? b = some u) (ha : s.heap.objs.size ≤ a) (hd : s.heap.objs.size ≤ d) (ne : d ≠ a)
    (na : ObjOk X.prog X.w (upd (upd H d od) a oa) h' a oa) (nd : ObjOk X.prog X.w (upd (upd H d od) a oa) h' d od) : Inv X pins σ (upd (upd H d od) a oa) { s with heap := h', toks := t' } := by
  have Ha : H a = none := I.hok.fresh ha
  have Hd : H d = none := I.hok.fresh hd
  have old : ∀ {b u}, s.heap.get? b = some u → b ≠ a ∧ b ≠ d := fun {b u} e => ⟨Nat.ne_of_lt (Nat.lt_of_lt_of_le (Heap.lt_size e) ha), Nat.ne_of_lt (Nat.lt_of_lt_of_le (Heap.lt_size e) hd)⟩
  have up : ∀ {b o}, H b = some o → upd (upd H d od) a oa b = some o := fun {b o} e => by rw [upd_ne (ne_of_none e Ha), upd_ne (ne_of_none e Hd)]; exact e
  refine I.un (h' := h') ⟨fun b o q _ _ _ => k b o q, fun b o q _ _ _ => ⟨o.slots, k b o q⟩, fun b o q n _ => by rw [upd_ne (old q).1, upd_ne (old q).2]; exact n, fun b o q _ => ⟨o, k b o q⟩,
    fun b xs q => up q, fun b o u q => up q, fun b ps q => ⟨#[], by rw [up q]; simp⟩⟩ fun b u e => ?_
  by_cases h1 : b = a
  · subst h1
    rw [upd_same] at e
    cases e
    exact na
  · by_cases h2 : b = d
    · subst h2
      rw [upd_ne h1, upd_same] at e
      cases e
      exact nd
    · rw [upd_ne h1, upd_ne h2] at e
      exact (I.hok b u e).stay (fun c v _ q => k c v q) (fun c q => up q) fun c xs q => up q
end

/-- the class at C is made with n values by position and those named ks: fsOf tells the fields that stand then -/
def Mkr (P : Program) (w : World) (K : PySem.W.Frag) (mg : Str → Option Value) (base : Heap) (C : Addr) (n : Nat) (ks : List Str) (fsOf : List V → List (Str × V)) : Prop :=
  ∀ (A : Around) (R : Result → Shared → Prop) (s : Shared) (us ws : List Value) (vs zs : List V), Vals vs us → Vals zs ws → vs.length = n → zs.length = ks.length → Mod K mg base → (∀ b o, base.get? b = some o → s.heap.get? b = some o) → A.depth + 1 < recursionLimit →
    (∀ h' tk e d m, ErMade s.heap h' e C d m → (∀ f, RelO ((fsOf (vs ++ zs)).lookup f) (m f)) → R (.ok (.ret (.ref e))) { s with heap := h', toks := tk }) → codeAny (model P w) A (.call (.ref C) ⟨us, ks.zip ws⟩) R s
section
variable {P : Program} {w : World} {K : PySem.W.Frag} {mg : Str → Option Value} {base : Heap} {C fI : Addr}
theorem relO1 {f : Str} {x : V} {u : Value} (r : RelV x u) (g : Str) : RelO ([(f, x)].lookup g) (if g = f then some u else none) := relO_put (fs := []) (mA := fun _ => none) r (fun _ => True.intro) g
/-- by position -/
theorem mkr1 {f txt : Str} {p : Nat → Pos} {pa pb : Pos} (T : ErrTxt P.main K C fI (ps1 f pa pb) (bd1 f txt p)) (FO : FldOk f) (hno : PySem.W.findIn K (.ref C) f = some none) (heq : SupEq txt (p 0) (p 1) (p 2) (p 3) (p 4)) :
    Mkr P w K mg base C 1 [] (fun vs => match vs with | [x] => [(f, x)] | _ => []) := fun A R s us ws vs zs r rz l1 l2 hM k0 hr hq => by
  cases rz with
  | cons _ _ => cases l2
  | nil =>
    cases r with
    | nil => cases l1
    | cons r rr =>
      cases rr with
      | cons _ _ => cases l1
      | nil =>
        rename_i x u
        refine made1 (v := u) (kw := []) T FO hno heq hM k0 hr (by show 1 ≤ sizeLine; rw [sizeLine_eq]; omega) (fun x s' qual body sc doc pm an cdv ct cc => .of_eq (FO.bi _ _ _ _ _ _ _ _ _ _ _ _ _)) fun h' tk e d M => hq h' tk e d _ M (relO1 r)
theorem mkr1k {f txt : Str} {p : Nat → Pos} {pa pb : Pos} (T : ErrTxt P.main K C fI (ps1 f pa pb) (bd1 f txt p)) (FO : FldOk f) (hno : PySem.W.findIn K (.ref C) f = some none) (heq : SupEq txt (p 0) (p 1) (p 2) (p 3) (p 4)) :
    Mkr P w K mg base C 0 [f] (fun vs => match vs with | [x] => [(f, x)] | _ => []) := fun A R s us ws vs zs r rz l1 l2 hM k0 hr hq => by
  cases r with
  | cons _ _ => cases l1
  | nil =>
    cases rz with
    | nil => cases l2
    | cons r rr =>
      cases rr with
      | cons _ _ => cases l2
      | nil =>
        rename_i x u
        refine made1 (v := u) (kw := [(f, u)]) T FO hno heq hM k0 hr (by show 0 ≤ sizeLine; omega) (fun x s' qual body sc doc pm an cdv ct cc => .of_eq (FO.bk _ _ _ _ _ _ _ _ _ _ _ _ _)) fun h' tk e d M => hq h' tk e d _ M (relO1 r)
theorem relO2 {f1 f2 : Str} {x y : V} {u v : Value} (r1 : RelV x u) (r2 : RelV y v) (g : Str) : RelO ([(f2, y), (f1, x)].lookup g) (if g = f2 then some v else if g = f1 then some u else none) := relO_put (fs := [(f1, x)]) r2 (relO1 r1) g
theorem mkr2 {f1 f2 txt : Str} {p : Nat → Pos} {pa pb pc : Pos} (T : ErrTxt P.main K C fI (ps2 f1 f2 pa pb pc) (bd2 f1 f2 txt p)) (FO : Fld2 f1 f2) (hno1 : PySem.W.findIn K (.ref C) f1 = some none) (hno2 : PySem.W.findIn K (.ref C) f2 = some none) (heq : SupEq txt (p 0) (p 1) (p 2) (p 3) (p 4)) :
    Mkr P w K mg base C 2 [] (fun vs => match vs with | [x, y] => [(f2, y), (f1, x)] | _ => []) := fun A R s us ws vs zs r rz l1 l2 hM k0 hr hq => by
  cases rz with
  | cons _ _ => cases l2
  | nil =>
    match vs, us, r, l1 with
    | [x, y], [u, v], .cons r1 (.cons r2 .nil), _ =>
      exact made2 (v1 := u) (v2 := v) (kw := []) T FO hno1 hno2 heq hM k0 hr (by show 2 ≤ sizeLine; rw [sizeLine_eq]; omega) (fun x s' qual body sc doc pm an cdv ct cc => .of_eq (FO.bi _ _ _ _ _ _ _ _ _ _ _ _ _ _ _)) fun h' tk e d M => hq h' tk e d _ M (relO2 r1 r2)
theorem mkr2k {f1 f2 txt : Str} {p : Nat → Pos} {pa pb pc : Pos} (T : ErrTxt P.main K C fI (ps2 f1 f2 pa pb pc) (bd2 f1 f2 txt p)) (FO : Fld2 f1 f2) (hno1 : PySem.W.findIn K (.ref C) f1 = some none) (hno2 : PySem.W.findIn K (.ref C) f2 = some none) (heq : SupEq txt (p 0) (p 1) (p 2) (p 3) (p 4)) :
    Mkr P w K mg base C 0 [f2, f1] (fun vs => match vs with | [y, x] => [(f2, y), (f1, x)] | _ => []) := fun A R s us ws vs zs r rz l1 l2 hM k0 hr hq => by
  cases r with
  | cons _ _ => cases l1
  | nil =>
    match zs, ws, rz, l2 with
    | [y, x], [v, u], .cons r2 (.cons r1 .nil), _ =>
      exact made2 (v1 := u) (v2 := v) (kw := [(f2, v), (f1, u)]) T FO hno1 hno2 heq hM k0 hr (by show 0 ≤ sizeLine; omega) (fun x s' qual body sc doc pm an cdv ct cc => .of_eq (FO.bk _ _ _ _ _ _ _ _ _ _ _ _ _ _ _)) fun h' tk e d M => hq h' tk e d _ M (relO2 r1 r2)
end

/-! ### such a class called -/
/-- C(..): a new error at a, its dict at d -/
def tMkE (C : Addr) (n m : Nat) (fsOf : List V → List (Str × V)) (t tk : TA) : TE := fun σ H Q => t σ H fun vs H1 => tk σ H1 fun zs H2 => vs.length = n ∧ zs.length = m ∧
  ∀ a d, H2 a = none → H2 d = none → d ≠ a → Q (.ref a) (upd (upd H2 d (exd d (fsOf (vs ++ zs)))) a (exo a C (some d)))
section
variable {X : Cx} {C : Addr} {n : Nat} {ks : List Str} {fsOf : List V → List (Str × V)} {x : Str} {p pos : Pos} {e : Expr} {es : List Expr} {kws : List Keyword} {t tk : TA} {k : Nat}
theorem run_mkr {pins : List (Addr × Obj)} {σ : St} {H : Hp} {s : Shared} {Q : VK} {us ws : List Value} {vs zs : List V} {E : Value → Shared → Prop} (M : Mkr X.prog X.w X.K X.mg X.base C n ks fsOf) (hr : Room (k + 1) X.A) (I : Inv X pins σ H s) (r : Vals vs us) (rz : Vals zs ws)
    (l1 : vs.length = n) (l2 : zs.length = ks.length) (h : ∀ a d, H a = none → H d = none → d ≠ a → Q (.ref a) (upd (upd H d (exd d (fsOf (vs ++ zs)))) a (exo a C (some d)))) :
    wpAny (model X.prog X.w) X.A (call (.ref C) us (ks.zip ws)) (EP X pins σ Q) E s := by
  refine wpAny_call (M X.A _ s us ws vs zs r rz l1 l2 I.ok.mod I.bk (by have := hr.dp; omega) fun h' tk a d m R hm => ?_)
  obtain ⟨t1, ho⟩ := R.obj
  exact ⟨.ref a, _, I.lay2 R.keep R.new R.dbig R.dne (exo_ok ho) (exd_ok R.ns hm), rfl, h a d (I.hok.fresh R.new) (I.hok.fresh R.dbig) R.dne⟩
theorem pe_mkr (M : Mkr X.prog X.w X.K X.mg X.base C n [] fsOf) (hr : Room (k + 1) X.A) (hg : Gl X x) (hm : X.mg x = some (.ref C)) (hk : PySem.W.keepIn X.K (.ref C) = true) (ha : PA X (e :: es) t)
    (hdb : (x == ("__debug__" : Str)) = false := by decide) (he : starEach (e :: es) X.env = (false, eval e X.env) :: starEach es X.env := by rfl) (hpl : (backTo pos (starEach es X.env)).any (·.1) = false := by rfl) :
    PE X (.Call (.Name x p) (e :: es) [] pos) (tMkE C n 0 fsOf t tNil) := by
  refine ⟨fun pins s σ H Q I h => ?_⟩
  refine wpAny_Call_Name_kw (ld_glob I hg hm ?_ hdb)
  refine PySem.W.callWith_K (h₀ := X.base) I.ok.mod.kin hk (thn (ha.run pos pins s σ H _ I h) fun us s1 ⟨vs, H1, I1, r, l1, _, q⟩ => ⟨I1.kIn, ?_⟩) he hpl
  exact run_mkr (ws := []) (zs := []) M hr I1 r .nil l1 rfl q
theorem pe_mkrK (M : Mkr X.prog X.w X.K X.mg X.base C 0 ks fsOf) (hr : Room (k + 1) X.A) (hg : Gl X x) (hm : X.mg x = some (.ref C)) (hk : PySem.W.keepIn X.K (.ref C) = true) (hkw : PK X kws tk)
    (hall : (backToKw pos (keywordEach kws X.env)).all (·.1.isSome) = true := by rfl) (hks : (backToKw pos (keywordEach kws X.env)).filterMap (·.1) = ks := by rfl) (hdb : (x == ("__debug__" : Str)) = false := by decide)
    (hpl : ((backTo pos (starEach [] X.env)).any (·.1) || (backToKw pos (keywordEach kws X.env)).any (·.1.isNone)) = false := by rfl) :
    PE X (.Call (.Name x p) [] kws pos) (tMkE C 0 ks.length fsOf tNil tk) := by
  refine ⟨fun pins s σ H Q I h => ?_⟩
  refine wpAny_Call_Name_kw (ld_glob I hg hm ?_ hdb)
  refine PySem.W.callWith_KW0 (h₀ := X.base) I.ok.mod.kin hk hall ?_ hpl
  refine thn (hkw.run pos pins s σ H _ I h) fun ws s2 ⟨zs, H2, I2, rz, _, l2, q2⟩ => ⟨I2.kIn, ?_⟩
  rw [hks]
  exact run_mkr (us := []) (vs := []) M hr I2 .nil rz rfl l2 q2
end

/-! ### its fields -/
/-- at a: an object of the class at C with its dict at d (an error that flew has other fields) -/
def exl (a C d : Addr) : HO := .ext fun h => ∃ o vs, h.get? a = some o ∧ o.cls = .ref C ∧ o.dict = some d ∧ o.data = .fields vs
theorem exl_ok {P : Program} {w : World} {H : Hp} {h : Heap} {a C d : Addr} {o : Obj} {vs : Array Value} (e : h.get? a = some o) (hc : o.cls = .ref C) (hd : o.dict = some d) (hv : o.data = .fields vs) : ObjOk P w H h a (exl a C d) :=
  ⟨⟨o, vs, e, hc, hd, hv⟩, ⟨o, e⟩, fun h1 h2 z k => by
    obtain ⟨o, vs, q, r⟩ := z
    exact ⟨o, vs, k _ q, r⟩⟩
/-- at a (read): an error of the class at C with the fields fs -/
def ErAt (H : Hp) (a C : Addr) (fs : List (Str × V)) : Prop := ∃ d, (Rd H a (exo a C (some d)) ∨ Rd H a (exl a C d)) ∧ (H d = some (exd d fs) ∨ H d = some (.xd fs))
theorem ErAt.look {X : Cx} {pins : List (Addr × Obj)} {σ : St} {H : Hp} {s : Shared} {a C : Addr} {fs : List (Str × V)} (I : Inv X pins σ H s) (e : ErAt H a C fs) :
    ∃ ox od, PySem.W.InstAt s.heap a ox C (some od) ∧ ∃ m : Str → Option Value, (∀ n, PySem.W.lookIn n od = some (m n)) ∧ ∀ f, RelO (fs.lookup f) (m f) := by
  obtain ⟨d, ha, hd⟩ := e
  have oa : ∃ o vs, s.heap.get? a = some o ∧ o.cls = .ref C ∧ o.dict = some d ∧ o.data = .fields vs := by
    rcases ha with ha | ha
    · have oa : ObjOk X.prog X.w H s.heap a (exo a C (some d)) := ha.ok I.hok
      have oa' : ObjOk X.prog X.w H s.heap a (.ext fun h => ∃ t1 : Addr, h.get? a = some ({ cls := .ref C, dict := some d, data := .fields #[.ref t1, .none, .none, .none, .bool false, .none] } : Obj)) := oa
      obtain ⟨t1, hx⟩ := oa'.1
      exact ⟨_, _, hx, rfl, rfl, rfl⟩
    · have oa : ObjOk X.prog X.w H s.heap a (exl a C d) := ha.ok I.hok
      have oa' : ObjOk X.prog X.w H s.heap a (.ext fun h => ∃ o vs, h.get? a = some o ∧ o.cls = .ref C ∧ o.dict = some d ∧ o.data = .fields vs) := oa
      exact oa'.1
  obtain ⟨ox, vs, hx, hc, hdd, hv⟩ := oa
  have od : ∃ mA, s.heap.Ns1 d mA ∧ ∀ f, RelO (fs.lookup f) (mA f) := by
    rcases hd with hd | hd
    · exact exd_at I.hok hd
    · exact I.hok d _ hd
  obtain ⟨mA, hn, hr⟩ := od
  obtain ⟨o, ho, hl⟩ := lookIn_ns hn
  exact ⟨ox, o, ⟨hx, hc, by unfold PySem.W.notCls; rw [hv] <;> rfl, by rw [hdd]; exact ho⟩, mA, hl, hr⟩
/-- e.f -/
def tEf (C : Addr) (f : Str) (te : TE) : TE := fun σ H Q => te σ H fun x H1 => ∃ a fs v, x = .ref a ∧ ErAt H1 a C fs ∧ fs.lookup f = some v ∧ Q v H1
section
variable {X : Cx}
theorem pe_ef {e : Expr} {te : TE} {pos : Pos} {n : Str} (he : PE X e te) (hb : attributeBase e n X.env (eval e X.env) = eval e X.env := by rfl) :
    PE X (.Attribute e n pos) (fun σ H Q => te σ H fun x H1 => ∃ a C fs v, x = .ref a ∧ XfC X.K C ∧ PySem.W.findIn X.K (.ref C) n = some none ∧ ErAt H1 a C fs ∧ fs.lookup n = some v ∧ Q v H1) := by
  refine ⟨fun pins s σ H Q I h => ?_⟩
  refine attr_of hb (thn (he.run pins s σ H _ I h) fun u s1 hh => ?_)
  obtain ⟨x, H1, I1, rx, a, C, fs, v, rfl, T, hno, ea, l, q⟩ := hh
  obtain rfl : u = Value.ref a := rx
  obtain ⟨ox, od, J, m, hl, hr⟩ := ea.look I1
  obtain ⟨u, hu, ru⟩ := RelO.some_of (v := v) (o := m n) (by rw [← l]; exact hr n)
  exact HandSPX.exc_get I1.kIn J T.ga T.gg T.exC (PySem.W.findObj_own T.hdC hno rfl (by rw [hl, hu])) (handed_of ru) ⟨v, H1, I1.tok _, ru, q⟩
/-- at a: an error of the class at D, with a dict or (not stored to) without -/
def ErI (H : Hp) (a D : Addr) : Prop := (∃ fs, ErAt H a D fs) ∨ H a = some (exo a D none)
theorem ErI.look {pins : List (Addr × Obj)} {σ : St} {H : Hp} {s : Shared} {a D : Addr} (I : Inv X pins σ H s) (e : ErI H a D) : ∃ ox od, PySem.W.InstAt s.heap a ox D od := by
  rcases e with ⟨fs, e⟩ | e
  · obtain ⟨ox, od, J, _⟩ := e.look I
    exact ⟨ox, some od, J⟩
  · obtain ⟨t1, hx⟩ := exo_at I.hok e
    exact ⟨_, none, ⟨hx, rfl, rfl, trivial⟩⟩
/-- isinstance(e, c) -/
def rIsErr (K : PySem.W.Frag) : List V → Hp → VK → Prop := fun xs H Q => ∃ (a D : Addr) (c : V) (cv : Value) (b : Bool), xs = [.ref a, c] ∧ ExcC K D ∧ ErI H a D ∧ (∀ u, RelV c u → u = cv) ∧ PySem.W.kitOne K (.ref D) cv = some b ∧ Q (.bl b) H
theorem call_isErr : CallR X (.builtin "isinstance") (rIsErr X.K) := by
  intro pins s σ H xs us Q I r h
  obtain ⟨a, D, c, cv, b, rfl, C, ea, hcv, e, q⟩ := h
  cases r with
  | cons rx rr =>
    cases rr with
    | cons rt rr =>
      cases rr
      cases rx
      have ec := hcv _ rt
      subst ec
      obtain ⟨ox, od, J⟩ := ea.look I
      have hcl : (PySem.W.clsIn X.K D).isSome = true := by
        obtain ⟨cd, hc, _⟩ := PySem.W.any_some C.hd
        rw [hc]; rfl
      exact PySem.W.kia_one (PySem.W.kitx_exc hcl C.hg C.hk C.hs C.ha C.hn C.ht C.hm) I.kIn J e (fun z => nomatch z) fun tk => ⟨.bl b, H, I.kept (t' := tk) fun _ _ z => z, rfl, q⟩
/-- .. of the error that a suite holds -/
def rIsHeld (K : PySem.W.Frag) (a : Addr) (cls : Value) (d : Option Addr) : List V → Hp → VK → Prop := fun xs H Q => ∃ (D dd : Addr) (c : V) (cv : Value) (b : Bool) (fs : List (Str × V)), cls = .ref D ∧ d = some dd ∧ ExcC K D ∧ xs = [.ref a, c] ∧ H dd = some (.xd fs) ∧ (∀ u, RelV c u → u = cv) ∧ PySem.W.kitOne K (.ref D) cv = some b ∧ Q (.bl b) H
theorem call_isHeld {a : Addr} {cls : Value} {d : Option Addr} {oe : Obj} {pn : List (Addr × Obj)} (hz : Zc cls d oe) (hf : ∃ vs, oe.data = .fields vs) : CallR (X.suite a ((a, oe) :: pn)) (.builtin "isinstance") (rIsHeld X.K a cls d) := by
  intro pins s σ H xs us Q I r h
  obtain ⟨D, dd, c, cv, b, fs, rfl, rfl, C, rfl, hd, hcv, e, q⟩ := h
  cases r with
  | cons rx rr =>
    cases rr with
    | cons rt rr =>
      cases rr
      cases rx
      have ec := hcv _ rt
      subst ec
      obtain ⟨hat, _⟩ := I.pin (a, oe) (List.mem_append.mpr (.inl List.mem_cons_self))
      obtain ⟨vs, hv⟩ := hf
      obtain ⟨mA, hn, _⟩ : ∃ mA, s.heap.Ns1 dd mA ∧ ∀ f, RelO (fs.lookup f) (mA f) := I.hok dd _ hd
      obtain ⟨od, ho, _⟩ := lookIn_ns hn
      have J : PySem.W.InstAt s.heap a oe D (some od) := ⟨hat, hz.1, by unfold PySem.W.notCls; rw [hv] <;> rfl, by rw [hz.2]; exact ho⟩
      have hcl : (PySem.W.clsIn X.K D).isSome = true := by
        obtain ⟨cd, hc, _⟩ := PySem.W.any_some C.hd
        rw [hc]; rfl
      exact PySem.W.kia_one (PySem.W.kitx_exc hcl C.hg C.hk C.hs C.ha C.hn C.ht C.hm) I.kIn J e (fun z => nomatch z) fun tk => ⟨.bl b, H, I.kept (t' := tk) fun _ _ z => z, rfl, q⟩
end
end L2
set_option Elab.async false
set_option linter.all false
set_option maxRecDepth 100000
set_option maxHeartbeats 4000000
namespace PySem.ErrX
open PySem PySem.W
theorem fo_given : FldOk (Str.ofString "given") := ⟨rfl, rfl, rfl, rfl, by decide +kernel, by decide +kernel, by decide +kernel, fun _ _ _ _ _ _ _ _ _ _ _ _ _ => rfl, fun _ _ _ _ _ _ _ _ _ _ _ _ _ => rfl⟩
theorem fo_index : FldOk (Str.ofString "index") := ⟨rfl, rfl, rfl, rfl, by decide +kernel, by decide +kernel, by decide +kernel, fun _ _ _ _ _ _ _ _ _ _ _ _ _ => rfl, fun _ _ _ _ _ _ _ _ _ _ _ _ _ => rfl⟩
theorem fo_text : Fld2 (Str.ofString "line") (Str.ofString "column") := ⟨fun _ _ _ _ _ _ _ _ _ _ _ _ _ _ _ => rfl, fun _ _ _ _ _ _ _ _ _ _ _ _ _ _ _ => rfl, rfl, rfl, rfl, rfl, rfl, by decide +kernel, by decide +kernel, by decide +kernel, by decide +kernel, by decide +kernel, by decide +kernel⟩
end PySem.ErrX
namespace L2
open PySem PySem.Spec PyProof.Rows PySem.ErrX
/-! ### such an error raised -/
section
variable {X : Cx} {C : Addr} {n : Nat} {ks : List Str} {fsOf : List V → List (Str × V)} {x : Str} {p pos : Pos} {e : Expr} {es : List Expr} {kws : List Keyword} {t tk : TA} {k : Nat}
theorem mkp_of {pins : List (Addr × Obj)} {σ : St} {H : Hp} {Q : XK} {hp h' : Heap} {g : Array GenState} {dr : Drawn} {t1 t2 : Nat} {os : OsState} {a d : Addr} {m : Str → Option Value} {fs : List (Str × V)} (I : Inv X pins σ H ⟨hp, g, dr, t1, os⟩) (M : ErMade hp h' a C d m)
    (hr : Raises X (.ref C)) (hm : ∀ f, RelO (fs.lookup f) (m f)) (q : ∀ d, H d = none → Q (.ref C) (some d) (upd H d (.xd fs))) : MkP X pins σ Q (.ref a) ⟨h', g, dr, t2, os⟩ := by
  obtain ⟨u, ho⟩ := M.obj
  have hns := M.ns
  obtain ⟨G, g1, g2⟩ := restrict h' fun b => decide (b ≠ a)
  have gk : ∀ b, b ≠ a → G.get? b = h'.get? b := fun b hb => g1 b (decide_eq_true hb)
  have ge : G.get? a = none := g2 a (by simp)
  have old : ∀ b o, hp.get? b = some o → G.get? b = some o := fun b o q => (gk b (Nat.ne_of_lt (Nat.lt_of_lt_of_le (Heap.lt_size q) M.new))).trans (M.keep b o q)
  have ob : ObjOk X.prog X.w (upd H d (.xd fs)) G d (.xd fs) := ⟨_, hns.at (fun o q => (gk d M.dne).trans q), hm⟩
  have J : Inv X pins σ (upd H d (.xd fs)) ⟨G, g, dr, t2, os⟩ := I.laid (t' := t2) old M.dbig ob
  refine ⟨a, _, _, ⟨G, g, dr, t2, os⟩, _, .ref C, some d, rfl, J, fun b o q => ?_, ge, ho, ⟨rfl, rfl⟩, rfl, rfl, ?_, rfl, I.bare, hr, q d (I.hok.fresh M.dbig)⟩
  · by_cases hb : b = a
    · have q' : G.get? b = some o := q
      rw [hb, ge] at q'; cases q'
    · exact (gk b hb).symm.trans q
  · rw [upd_ne (Ne.symm M.dne)]
    exact I.hok.fresh M.new
/-- C(..) to be raised -/
def tMkX (C : Addr) (n m : Nat) (fsOf : List V → List (Str × V)) (t tk : TA) : St → Hp → XK → Prop := fun σ H Q => t σ H fun vs H1 => tk σ H1 fun zs H2 => vs.length = n ∧ zs.length = m ∧
  ∀ d, H2 d = none → Q (.ref C) (some d) (upd H2 d (.xd (fsOf (vs ++ zs))))
theorem pmk_mkr (M : Mkr X.prog X.w X.K X.mg X.base C n [] fsOf) (hR : Raises X (.ref C)) (hr : Room (k + 1) X.A) (hg : Gl X x) (hm : X.mg x = some (.ref C)) (hk : PySem.W.keepIn X.K (.ref C) = true) (ha : PA X (e :: es) t)
    (hdb : (x == ("__debug__" : Str)) = false := by decide) (he : starEach (e :: es) X.env = (false, eval e X.env) :: starEach es X.env := by rfl) (hpl : (backTo pos (starEach es X.env)).any (·.1) = false := by rfl) :
    PMk X (.Call (.Name x p) (e :: es) [] pos) (tMkX C n 0 fsOf t tNil) := by
  intro pins s σ H Q I h
  refine wpAny_Call_Name_kw (ld_glob I hg hm ?_ hdb)
  refine PySem.W.callWith_K (h₀ := X.base) I.ok.mod.kin hk (thn (ha.run pos pins s σ H _ I h) fun us s1 ⟨vs, H1, I1, r, l1, _, q⟩ => ⟨I1.kIn, ?_⟩) he hpl
  show wpAny _ _ (call (.ref C) us ([].zip [])) _ _ _
  refine wpAny_call (M X.A _ s1 us [] vs [] r .nil l1 rfl I1.ok.mod I1.bk (by have := hr.dp; omega) fun h' tk a d m R hm => ?_)
  obtain ⟨hp, g, dr, t1, os⟩ := s1
  exact mkp_of I1 R hR hm q
theorem pmk_mkrK (M : Mkr X.prog X.w X.K X.mg X.base C 0 ks fsOf) (hR : Raises X (.ref C)) (hr : Room (k + 1) X.A) (hg : Gl X x) (hm : X.mg x = some (.ref C)) (hk : PySem.W.keepIn X.K (.ref C) = true) (hkw : PK X kws tk)
    (hall : (backToKw pos (keywordEach kws X.env)).all (·.1.isSome) = true := by rfl) (hks : (backToKw pos (keywordEach kws X.env)).filterMap (·.1) = ks := by rfl) (hdb : (x == ("__debug__" : Str)) = false := by decide)
    (hpl : ((backTo pos (starEach [] X.env)).any (·.1) || (backToKw pos (keywordEach kws X.env)).any (·.1.isNone)) = false := by rfl) :
    PMk X (.Call (.Name x p) [] kws pos) (tMkX C 0 ks.length fsOf tNil tk) := by
  intro pins s σ H Q I h
  refine wpAny_Call_Name_kw (ld_glob I hg hm ?_ hdb)
  refine PySem.W.callWith_KW0 (h₀ := X.base) I.ok.mod.kin hk hall ?_ hpl
  refine thn (hkw.run pos pins s σ H _ I h) fun ws s2 ⟨zs, H2, I2, rz, _, l2, q2⟩ => ⟨I2.kIn, ?_⟩
  rw [hks]
  refine wpAny_call (M X.A _ s2 [] ws [] zs .nil rz rfl l2 I2.ok.mod I2.bk (by have := hr.dp; omega) fun h' tk a d m R hm => ?_)
  obtain ⟨hp, g, dr, t1, os⟩ := s2
  exact mkp_of I2 R hR hm q2
end
end L2
set_option Elab.async false
set_option linter.all false
set_option maxRecDepth 100000
set_option maxHeartbeats 4000000
namespace L2
open PySem PySem.Spec PyProof.Rows PySem.ErrX
/-! ### several except clauses, some with a name -/
abbrev Su := Addr → Value → Option Addr → TS
/-- what the clauses wish, one after the other; a named one has its slot -/
def wMix (K : PySem.W.Frag) (D : Ends) : List (Value × Option Nat × Su) → WX
  | [] => fun _ _ _ _ => False
  | (c, none, ts) :: r => fun cls d σ H => ∃ b, PySem.W.exmOne K cls c = some b ∧ (b = true → ∀ a, H a = none → ts a cls d D σ H) ∧ (b = false → wMix K D r cls d σ H)
  | (c, some i, ts) :: r => fun cls d σ H => ∃ b, PySem.W.exmOne K cls c = some b ∧
      (b = true → ∀ a, H a = none → ts a cls d { nx := fun σ' H' => D.nx (σ'.set i none) H', rt := D.rt, bk := fun σ' H' => D.bk (σ'.set i none) H', ct := fun σ' H' => D.ct (σ'.set i none) H' } (σ.set i (some (.ref a))) H) ∧ (b = false → wMix K D r cls d σ H)
inductive HdsMix (X : Cx) : List ExceptHandler → List (Value × Option Nat × Su) → Prop
  | nil : HdsMix X [] []
  | cons {x : Str} {c : Value} {ts : Su} {b₀ : Stmt} {suite : List Stmt} {np pos' : Pos} {hds : List ExceptHandler} {l : List (Value × Option Nat × Su)} (hc : Names X x c)
      (hsu : ∀ (a : Addr) (oe : Obj) (cls : Value) (d : Option Addr) (pn : List (Addr × Obj)), Zc cls d oe → (∃ vs, oe.data = .fields vs) → X.base.get? a = none → PSs (X.suite a ((a, oe) :: pn)) (b₀ :: suite) (ts a cls d)) (r : HdsMix X hds l) :
      HdsMix X (.ExceptHandler (some (.Name x np)) none (b₀ :: suite) pos' :: hds) ((c, none, ts) :: l)
  | named {x n : Str} {i : Nat} {c : Value} {ts : Su} {b₀ : Stmt} {suite : List Stmt} {np pos' : Pos} {hds : List ExceptHandler} {l : List (Value × Option Nat × Su)} (hc : Names X x c) (hi : X.N[i]? = some n) (hln : X.env.kindOf n = some .local)
      (hsu : ∀ (a : Addr) (oe : Obj) (cls : Value) (d : Option Addr) (pn : List (Addr × Obj)), Zc cls d oe → (∃ vs, oe.data = .fields vs) → X.base.get? a = none → PSs (X.suite a ((a, oe) :: pn)) (b₀ :: suite) (ts a cls d)) (r : HdsMix X hds l) :
      HdsMix X (.ExceptHandler (some (.Name x np)) (some n) (b₀ :: suite) pos' :: hds) ((c, some i, ts) :: l)
section
variable {X : Cx} {body : List Stmt} {h₀ : ExceptHandler} {hds : List ExceptHandler} {l : List (Value × Option Nat × Su)} {pos : Pos} {tb : WX → TS}
theorem ps_try_mix (hs : X.stack = X.env :: X.outer) (hf : X.env.frame = some X.env.locals) (hN : X.N.Nodup)
    (hb : ∀ (W : WX) (pn : List (Addr × Obj)) (xe : Value → Shared → Prop), Takes (X.tr pn xe) W → PassesOwn (model X.prog X.w) X.A X.env xe → PSs (X.tr pn xe) body (tb W))
    (hh : HdsMix X (h₀ :: hds) l) : PS X (.Try body (h₀ :: hds) [] [] pos) (fun D σ H => tb (wMix X.K D l) D σ H) := by
  refine ⟨fun pins s σ H D I h => ?_⟩
  have ok := I.ok
  have fr : X.A.frames = some (X.env :: X.outer) := ok.frames.trans (congrArg some hs)
  refine wpAny_Try_except ?_
  have caught : ∀ u s', XE (X.tr (X.pn ++ pins) (fun e s₁ => wpAny (model X.prog X.w) X.A (noteFrame e X.env) (fun _ s₂ => wpAny (model X.prog X.w) X.A (setFlight e none) (fun _ s₃ => wpAny (model X.prog X.w) X.A (handleBy e X.env (h₀ :: hds)) (SP X pins D) X.xe s₃) X.xe s₂) X.xe s₁)) (wMix X.K D l) u s' →
      wpAny (model X.prog X.w) X.A (noteFrame u X.env) (fun _ s₂ => wpAny (model X.prog X.w) X.A (setFlight u none) (fun _ s₃ => wpAny (model X.prog X.w) X.A (handleBy u X.env (h₀ :: hds)) (SP X pins D) X.xe s₃) X.xe s₂) X.xe s' := by
    rintro u s' ⟨a, B, sI, _, σ', H', cls, d, rfl, J', nb, up, sky, na, os, ag, wish⟩
    have J : Inv X pins σ' H' sI := J'.ofTry ok
    have sky' : Sky B (X.env :: X.outer) a (Zc cls d) X.env.locals s'.heap := hs ▸ sky
    refine Sky.land Zc.steady fr hf sky' fun h3 fl3 up3 => ?_
    have J3 : Inv X pins σ' H' { s' with heap := h3 } := J.landed nb fl3.1 (up.trans up3) os ag
    obtain ⟨oe3, vs3, he3, hz3, hd3⟩ := fl3.there
    have off : a ∉ frs (X.env :: X.outer) := fun hm => by
      obtain ⟨_, o', e', no⟩ := fl3.2.2.1.mem hm
      cases he3.symm.trans e'
      exact no _ hd3
    have nL : a ≠ X.env.locals := fun z => off (List.mem_filterMap.mpr ⟨X.env, List.mem_cons_self, by rw [hf, z]⟩)
    have nF : a ∉ X.fs := fun hm => by
      obtain ⟨e, he, q⟩ := List.mem_filterMap.mp hm
      exact off (List.mem_filterMap.mpr ⟨e, List.mem_cons_of_mem _ he, q⟩)
    have nB : X.base.get? a = none := by
      cases q : X.base.get? a with
      | none => rfl
      | some o =>
        have z := nb a o (J.bk a o q) fun hm => by
          have y := (J.stack.mem hm).1
          rw [q] at y
          cases y
        rw [fl3.2.1] at z
        cases z
    have S3 := J3.suite he3 hd3 na nL nF
    have LT : PySem.W.Looks (model X.prog X.w) h3 (typeOf (.ref a)) cls := fun A Q E s k q => wpAny_typeOf_ref (k _ _ he3) (by rw [hz3.1]; exact q)
    have asked : ∀ {x : Str} {c : Value} {np : Pos} {Q : Value → Shared → Prop} {E : Value → Shared → Prop}, Names X x c → Q c { s' with heap := h3 } → wpAny (model X.prog X.w) (X.A.mark (some (.ref a))) (eval (.Name x np) X.env) Q E { s' with heap := h3 } := fun {x c np Q E} hc q => by
      obtain ⟨hg, hdbg, hm | ⟨hm, hv, hnn⟩⟩ := hc
      · exact ld_glob (X := X.suite a ((a, oe3) :: (X.pn ++ pins))) S3 hg hm q hdbg
      · exact ld_blt (X := X.suite a ((a, oe3) :: (X.pn ++ pins))) S3 hg hm hv q hnn hdbg
    have fourth : ∀ {h4 : Heap}, HandSPX.FlyingZ B (X.env :: X.outer) a (Zc cls d) h4 → h3.UpToSlots h4 → ∃ oe4, Zc cls d oe4 ∧ (∃ vs, oe4.data = .fields vs) ∧ Inv (X.suite a ((a, oe4) :: (X.pn ++ pins))) [] σ' H' { s' with heap := h4 } := fun {h4} fl4 up4 => by
      have J4 : Inv X pins σ' H' { s' with heap := h4 } := J.landed nb fl4.1 ((up.trans up3).trans up4) os ag
      obtain ⟨oe4, vs4, he4, hz4, hd4⟩ := fl4.there
      exact ⟨oe4, hz4, ⟨_, hd4⟩, J4.suite he4 hd4 na nL nF⟩
    have go : ∀ {hds' : List ExceptHandler} {l' : List (Value × Option Nat × Su)}, HdsMix X hds' l' → wMix X.K D l' cls d σ' H' → wpAny (model X.prog X.w) X.A (handleBy (.ref a) X.env hds') (SP X pins D) X.xe { s' with heap := h3 } := by
      intro hds' l' hk
      induction hk with
      | nil => exact fun z => z.elim
      | @cons x c ts b₀ suite np pos' hds2 l2 hc hsu r ih =>
        rintro ⟨b, hb1, hyes, hno⟩
        refine wpAny_handleBy_cons (codeAny_handlers_test ?_) (by intro q; cases q)
        refine asked hc ((PySem.W.exm_one (M := model X.prog X.w) J3.kIn LT hb1).here ?_)
        cases b with
        | false => exact ih (hno rfl)
        | true =>
          refine codeAny_handlers_suite (HandSPX.lands_againZ fl3 fun h4 fl4 up4 => ?_)
          obtain ⟨oe4, hz4, hd4, S4⟩ := fourth fl4 up4
          refine wpAny_mono ((hsu a oe4 cls d (X.pn ++ pins) hz4 hd4 nB).run [] _ _ H' _ S4 (hyes rfl a na)) (fun f s6 hsp => ?_) (fun _ _ z => False.elim z)
          match f, hsp with
          | .next, ⟨_, _, S6, q6⟩ => exact ⟨_, _, S6.unsuite ok, q6⟩
          | .brk, ⟨_, _, S6, q6⟩ => exact ⟨_, _, S6.unsuite ok, q6⟩
          | .cont, ⟨_, _, S6, q6⟩ => exact ⟨_, _, S6.unsuite ok, q6⟩
          | .ret u, ⟨_, _, _, S6, r6, q6⟩ => exact ⟨_, _, _, S6.unsuite ok, r6, q6⟩
      | @named x n i c ts b₀ suite np pos' hds2 l2 hc hi hln hsu r ih =>
        rintro ⟨b, hb1, hyes, hno⟩
        refine wpAny_handleBy_cons (codeAny_handlers_test ?_) (by intro q; cases q)
        refine asked hc ((PySem.W.exm_one (M := model X.prog X.w) J3.kIn LT hb1).here ?_)
        cases b with
        | false => exact ih (hno rfl)
        | true =>
          refine codeAny_handlers_suite_as (HandSPX.lands_againZ fl3 fun h4 fl4 up4 => ?_)
          obtain ⟨oe4, hz4, hd4, S4⟩ := fourth fl4 up4
          refine store_ok (X := X.suite a ((a, oe4) :: (X.pn ++ pins))) (v := .ref a) S4 hN hi (.inl hln) rfl (fun s5 S5 => ?_) (.inr hln)
          refine wpAny_mono ((hsu a oe4 cls d (X.pn ++ pins) hz4 hd4 nB).run [] s5 _ H' _ S5 (hyes rfl a na)) (fun f s6 hsp => ?_) (fun _ _ z => False.elim z)
          match f, hsp with
          | .next, ⟨_, _, S6, q6⟩ => exact gone_ok (S6.unsuite ok) hN hi hln fun s7 J7 => ⟨_, _, J7, q6⟩
          | .brk, ⟨_, _, S6, q6⟩ => exact gone_ok (S6.unsuite ok) hN hi hln fun s7 J7 => ⟨_, _, J7, q6⟩
          | .cont, ⟨_, _, S6, q6⟩ => exact gone_ok (S6.unsuite ok) hN hi hln fun s7 J7 => ⟨_, _, J7, q6⟩
          | .ret u, ⟨_, _, _, S6, r6, q6⟩ => exact gone_ok (S6.unsuite ok) hN hi hln fun s7 J7 => ⟨_, _, _, J7, r6, q6⟩
    exact go hh wish
  refine wpAny_mono ((hb (wMix X.K D l) (X.pn ++ pins) _ caught PassesOwn.looking).run [] s σ H D (I.toTry _) h) (fun f s1 hsp => ?_) (fun e s1 he => he)
  match f, hsp with
  | .next, ⟨σ', H', J', q⟩ => exact wpAny_execs_nil ⟨σ', H', J'.ofTry ok, q⟩
  | .brk, ⟨σ', H', J', q⟩ => exact ⟨σ', H', J'.ofTry ok, q⟩
  | .cont, ⟨σ', H', J', q⟩ => exact ⟨σ', H', J'.ofTry ok, q⟩
  | .ret u, ⟨v, σ', H', J', r, q⟩ => exact ⟨v, σ', H', J'.ofTry ok, r, q⟩
end
end L2
set_option Elab.async false
set_option linter.all false
set_option maxRecDepth 100000
set_option maxHeartbeats 4000000
namespace L2
open PySem PySem.Spec PyProof.Rows
/-! ### a def's promise where the state around (A) keeps a wish Z of one's own; nothing is raised -/
structure FnZ (Z : Around → Prop) (P : Program) (w : World) (K : PySem.W.Frag) (mg : Str → Option Value) (base : Heap) (f : Addr) (fd : FuncData) (ps : List Str) (sp : Sp) : Prop where
  len : ∀ vs H Q E, sp vs H Q E → vs.length = ps.length
  run : ∀ (A : Around) (outer : List Env) (s : Shared) (H : Hp) (args : Args) (us : List Value) (vs : List V) (Q : VK), Z A → Env0 P w K mg base A outer s H → BindsTo s fd args (ps.zip us) → Vals vs us → sp vs H Q E0 →
    codeAny (model P w) A (.call (.ref f) args) (CR CX0 outer P w H s Q E0) s
theorem FnOk.toZ {P : Program} {w : World} {K : PySem.W.Frag} {mg : Str → Option Value} {base : Heap} {k : Nat} {f : Addr} {fd : FuncData} {ps : List Str} {sp : Sp} {Z : Around → Prop} (F : FnOk P w K mg base CX0 k f fd ps sp) (h : ∀ A, Z A → Room k A) : FnZ Z P w K mg base f fd ps sp :=
  ⟨F.len, fun A outer s H args us vs Q z e b r q => F.run A outer s H args us vs Q E0 (h A z) e b r q⟩
/-- a def's body, calm or not -/
theorem Fun.okZ {Z : Around → Prop} (b : Bool) {P : Program} {w : World} {K : PySem.W.Frag} {mg : Str → Option Value} {base : Heap} {x qual : Str} {st : Stmt} {f : Addr} {fd : FuncData} {N ps : List Str} {sp : Sp} (F : Fun K x qual st f fd) (S : FnScope N ps (defScope st))
    (hZ : ∀ A, Z A → A.depth < recursionLimit) (hC : b = true → ∀ A, Z A → A.handled = none) (len : ∀ vs H Q E, sp vs H Q E → vs.length = ps.length)
    (hbody : ∀ (cdv : Value) (A : Around) (outer : List Env) (s : Shared) (H : Hp) (vs : List V) (Q : VK), Z A → sp vs H Q E0 →
      ∃ t, PSs ({ cxOf CX0 P w K mg base N qual (defScope st) f cdv A outer s H E0 with calm := b } : Cx).nox (defBody st) t ∧ t { nx := fun _ H' => Q .non H', rt := Q } (start N vs) H) : FnZ Z P w K mg base f fd ps sp := by
  obtain ⟨oc, od, kV, doc, pm, an, cdv, ct, osl, rfl, lk, hcd⟩ := F.ex
  refine ⟨len, fun A outer s H args us vs Q hz e0 hb r hsp => ?_⟩
  have hl := len _ _ _ _ hsp
  have KX : K.In s.heap := e0.mod.kin.keeps fun b o e => (e0.bs b o e).1
  have hkind : ∀ y ∈ ps.zip us, (defScope st).names.lookup y.1 = some .local ∨ ((defScope st).names.lookup y.1 = some .cell ∧ ((cellsFrom (s.heap.objs.size + 1) (defScope st).names []).lookup y.1).isSome = true) := fun ⟨n, v⟩ hy =>
    (S.par n (List.of_mem_zip hy).1).elim .inl fun q => .inr ⟨q, PySem.W.cellsFrom_some _ _ _ (.inl q)⟩
  refine codeAny_call_function (hZ A hz) (KX _ _ lk) rfl S.co S.gen rfl (PySem.W.codeRec_of KX hcd) (hb _ _ _ _ ?_)
  refine wpAny_newFunctionEnv_cells S.kind hkind fun env he s1 x => ?_
  subst he
  refine ⟨(e0.mod.nolimit.keeps fun b o e => (e0.bs b o e).1).keeps x.toInCall.keep, codeAny_func ?_⟩
  obtain ⟨t, ht, hq⟩ := hbody cdv A outer s H vs Q hz hsp
  -- the start: as for any def, at an around that handles nothing
  have I0 : Inv (cxOf CX0 P w K mg base N qual (defScope st) f cdv { A with handled := none } outer s H E0) [] (start N vs) H s1 := inv_start S rfl ⟨e0.frames, e0.mod, e0.bs, e0.bsz, e0.funs, e0.frf, e0.hok, e0.bare⟩ hl r x
  have I : Inv ({ cxOf CX0 P w K mg base N qual (defScope st) f cdv A outer s H E0 with calm := b } : Cx) [] (start N vs) H s1 := by
    have ok := I0.ok
    exact ⟨⟨ok.mod, ok.kind, ok.glob, ok.blt, ok.above, ok.inj, ok.has, ok.cab, fun q => hC q A hz, Around.frames_deeper e0.frames, ok.stk, ok.exf, ok.bs, ok.bsz, ok.noex, ok.exfs, ok.funs, ok.frf⟩,
      I0.os, I0.bare, I0.base, I0.loc, I0.cell, I0.free, I0.freeC, I0.pin, I0.hok, I0.len⟩
  refine wpAny_mono (ht.nox.run [] s1 (start N vs) H _ I hq) (fun fl s' hs => ?_) fun e s' hs => hs
  match fl, hs with
  | .ret u, ⟨v, _, H', J, rv, q⟩ => exact ⟨v, H', J.os, J.bare, J.base, J.hok, rv, q⟩
  | .next, ⟨_, H', J, q⟩ => exact ⟨.non, H', J.os, J.bare, J.base, J.hok, rfl, q⟩
  | .brk, ⟨_, _, _, q⟩ => exact False.elim q
  | .cont, ⟨_, _, _, q⟩ => exact False.elim q
section
variable {X : Cx} {Z : Around → Prop} {f : Addr} {fd : FuncData} {ps : List Str} {sp : Sp} {x : Str} {p pos : Pos} {e : Expr} {es : List Expr} {t : TA}
theorem run_fnZ {pins : List (Addr × Obj)} {σ : St} {H : Hp} {s : Shared} {Q : VK} {us : List Value} {vs : List V} (F : FnZ Z X.prog X.w X.K X.mg X.base f fd ps sp) (hz : Z X.A) (hb : Binds X.K fd ps [])
    (I : Inv X pins σ H s) (r : Vals vs us) (h : sp vs H Q E0) {E : Value → Shared → Prop} : wpAny (model X.prog X.w) X.A (call (.ref f) us) (EP X pins σ Q) E s := by
  have hl : (us ++ []).length = ps.length := by
    rw [List.append_nil, ← r.length]
    exact F.len _ _ _ _ h
  have b := hb s us I.kIn hl
  rw [List.append_nil] at b
  refine wpAny_call (codeAny_mono (F.run X.A X.stack s H ⟨us, []⟩ us vs Q hz I.env0 b r h) fun r s' hq => ?_)
  match r, hq with
  | .ok (.ret u), hq => exact I.after hq
/-- f(e, ..) -/
theorem pe_callZ (F : FnZ Z X.prog X.w X.K X.mg X.base f fd ps sp) (hz : Z X.A) (hg : Gl X x) (hm : X.mg x = some (.ref f)) (hk : PySem.W.keepIn X.K (.ref f) = true) (hb : Binds X.K fd ps [])
    (ha : PA X (e :: es) t) (hdb : (x == ("__debug__" : Str)) = false := by decide) (he : starEach (e :: es) X.env = (false, eval e X.env) :: starEach es X.env := by rfl) (hpl : (backTo pos (starEach es X.env)).any (·.1) = false := by rfl) :
    PE X (.Call (.Name x p) (e :: es) [] pos) (fun σ H Q => t σ H fun vs H1 => sp vs H1 Q E0) := by
  refine ⟨fun pins s σ H Q I h => ?_⟩
  refine wpAny_Call_Name_kw (ld_glob I hg hm ?_ hdb)
  refine PySem.W.callWith_K (h₀ := X.base) I.ok.mod.kin hk (thn (ha.run pos pins s σ H _ I h) fun us s1 ⟨vs, H1, I1, r, q⟩ => ⟨I1.kIn, ?_⟩) he hpl
  exact run_fnZ F hz hb I1 r q
end
/-! ### the rooms -/
/-- nothing is handled, and no repr runs -/
structure RoomG (k : Nat) (A : Around) : Prop where
  room : Room k A
  gs : A.guards = some []
theorem RoomG.mono {j k : Nat} {A : Around} (r : RoomG k A) (h : j ≤ k) : RoomG j A := ⟨r.room.mono h, r.gs⟩
theorem deeper_guards {A : Around} {env : Env} : (A.deeper env).guards = A.guards := by
  cases A with
  | mk d h fr g u => cases g <;> rfl
theorem RoomG.deeper {k : Nat} {A : Around} (r : RoomG (k + 1) A) (env : Env) : RoomG k (A.deeper env) := ⟨r.room.deeper env, deeper_guards.trans r.gs⟩
theorem RoomG.depth {k : Nat} {A : Around} (r : RoomG k A) : A.depth < recursionLimit := r.room.depth
/-- room, whatever is handled -/
structure RoomA (k : Nat) (A : Around) : Prop where
  dp : A.depth + 3 * k + 5 < recursionLimit
  un : A.units + 16 * k + 200 < cLine
theorem RoomA.of {k : Nat} {A : Around} (r : Room k A) : RoomA k A := ⟨r.dp, r.un⟩
theorem RoomA.mark {k : Nat} {A : Around} (r : Room k A) (v : Option Value) : RoomA k (A.mark v) := ⟨r.dp, r.un⟩
theorem RoomA.depth {k : Nat} {A : Around} (r : RoomA k A) : A.depth < recursionLimit := by have := r.dp; omega
/-! ### a def called in a suite, the held error among what is passed -/
section
variable {X : Cx} {a : Addr} {oe : Obj} {pn : List (Addr × Obj)} {cls : Value} {d : Option Addr} {Z : Around → Prop} {f : Addr} {fd : FuncData} {ps : List Str} {sp : Sp} {x : Str} {p pos : Pos} {e : Expr} {es : List Expr} {t : TA}
def tHeld (a : Addr) (cls : Value) (d : Option Addr) (sp : Sp) (t : TA) : TE := fun σ H Q => t σ H fun vs H1 => ∃ C dd, cls = .ref C ∧ d = some dd ∧ ∀ o, sp vs (upd H1 a (.frz o (exl a C dd))) (fun v H2 => Q v (del H2 a)) E0
theorem pe_callHeld (hz : Zc cls d oe) (hv : ∃ vs, oe.data = .fields vs) (nB : X.base.get? a = none) (F : FnZ Z X.prog X.w X.K X.mg X.base f fd ps sp) (hr : Z (X.suite a ((a, oe) :: pn)).A) (hg : Gl (X.suite a ((a, oe) :: pn)) x) (hm : X.mg x = some (.ref f)) (hk : PySem.W.keepIn X.K (.ref f) = true) (hb : Binds X.K fd ps [])
    (ha : PA (X.suite a ((a, oe) :: pn)) (e :: es) t) (hdb : (x == ("__debug__" : Str)) = false := by decide) (he : starEach (e :: es) X.env = (false, eval e X.env) :: starEach es X.env := by rfl) (hpl : (backTo pos (starEach es X.env)).any (·.1) = false := by rfl) :
    PE (X.suite a ((a, oe) :: pn)) (.Call (.Name x p) (e :: es) [] pos) (tHeld a cls d sp t) := by
  refine ⟨fun pins s σ H Q I h => ?_⟩
  refine wpAny_Call_Name_kw (ld_glob I hg hm ?_ hdb)
  refine PySem.W.callWith_K (h₀ := X.base) I.ok.mod.kin hk (thn (ha.run pos pins s σ H _ I h) fun us s1 ⟨vs, H1, I1, r, C, dd, ec, ed, q⟩ => ⟨I1.kIn, ?_⟩) he hpl
  subst ec
  subst ed
  obtain ⟨fv, hv⟩ := hv
  obtain ⟨hat, hno, nL, nF, _⟩ := I1.pin (a, oe) (List.mem_append_left _ List.mem_cons_self)
  have hat : s1.heap.get? a = some oe := hat
  have hno : H1 a = none := hno
  have up : ∀ {b u}, H1 b = some u → upd H1 a (.frz oe (exl a C dd)) b = some u := fun {b u} z => by rw [upd_ne (ne_of_none z hno)]; exact z
  have hok : HOk X.prog X.w (upd H1 a (.frz oe (exl a C dd))) s1.heap := fun b u z => by
    by_cases hb : b = a
    · subst hb
      rw [upd_same] at z
      cases z
      exact ⟨hat, exl_ok hat hz.1 hz.2 hv⟩
    · rw [upd_ne hb] at z
      exact (I1.hok b u z).stay (fun _ _ _ y => y) (fun _ y => up y) fun _ _ y => up y
  have nfr : ∀ b ∈ frs X.stack, b ≠ a := fun b hb z => by
    rcases List.mem_cons.mp (I1.stkSub b hb) with y | y
    · exact nL (z.symm.trans y)
    · exact nF (by rw [← z]; exact y)
  have E : Env0 X.prog X.w X.K X.mg X.base (X.suite a ((a, oe) :: pn)).A X.stack s1 (upd H1 a (.frz oe (exl a C dd))) :=
    ⟨I1.ok.frames, I1.ok.mod, fun b o z => ⟨I1.bk b o z, by rw [upd_ne (fun y => by rw [y, nB] at z; cases z)]; exact (I1.bs b o z).2⟩, Nat.le_trans I1.ok.bsz I1.sz, I1.stack,
      fun b hb => by rw [upd_ne (nfr b hb)]; exact I1.stkFree b hb, hok, I1.bare⟩
  have hl : (us ++ []).length = ps.length := by
    rw [List.append_nil, ← r.length]
    exact F.len _ _ _ _ (q oe)
  have hb' := hb s1 us I1.kIn hl
  rw [List.append_nil] at hb'
  show wpAny _ _ (call (.ref f) us) _ _ _
  refine wpAny_call (codeAny_mono (F.run _ X.stack s1 _ ⟨us, []⟩ us vs _ hr E hb' r (q oe)) fun r s' hq => ?_)
  match r, hq with
  | .ok (.ret u), ⟨v, H2, os, bare, un, hok2, rv, qv⟩ =>
    have h2a : H2 a = some (.frz oe (exl a C dd)) := un.frzs a oe _ upd_same
    have ha2 : s'.heap.get? a = some oe := (hok2 a _ h2a).1
    have nown : ∀ {b c}, H2 b = some (.own c) → b ≠ a := fun {b c} z y => by rw [y, h2a] at z; cases z
    have dn : ∀ {b u}, H2 b = some u → b ≠ a → del H2 a b = some u := fun {b u} z y => by rw [del_ne y]; exact z
    have hok3 : HOk X.prog X.w (del H2 a) s'.heap := fun b u z => by
      by_cases hb : b = a
      · rw [hb, del_same] at z
        cases z
      · rw [del_ne hb] at z
        exact (hok2 b u z).stay (fun _ _ _ y => y) (fun c y => dn y (nown y)) fun c xs y => dn y fun w => by rw [w, h2a] at y; cases y
    have U : Un (frs X.stack) [] H1 (del H2 a) s1.heap s'.heap := {
      keep := fun b o z n hf hx => by
        by_cases hb : b = a
        · rw [hb] at z ⊢
          rw [hat] at z
          rw [ha2]
          exact z
        · exact un.keep b o z (by rw [upd_ne hb]; exact n) hf hx
      slot := fun b o z n hf hx => un.slot b o z (by rw [upd_ne (nfr b hf)]; exact n) hf hx
      free := fun b o z n hx => by
        by_cases hb : b = a
        · rw [hb, del_same]
        · rw [del_ne hb]
          exact un.free b o z (by rw [upd_ne hb]; exact n) hx
      there := un.there
      tups := fun b xs z => dn (un.tups b xs (up z)) (ne_of_none z hno)
      frzs := fun b o u z => dn (un.frzs b o u (up z)) (ne_of_none z hno)
      tbls := fun b pp z => by
        obtain ⟨more, y⟩ := un.tbls b pp (up z)
        exact ⟨more, dn y (ne_of_none z hno)⟩ }
    exact ⟨v, del H2 a, I1.call' (ch := []) os U hok3 bare (fun _ z => nomatch z), rv, qv⟩
end
end L2
set_option Elab.async false
set_option linter.all false
set_option maxRecDepth 100000
set_option maxHeartbeats 1000000
/-! tuples of which it is known that they have no dict of their own, and what makes them -/
namespace L2
open PySem PySem.Spec PyProof.Rows
/-! ### plain tuples -/
/-- a tuple that has no dict of its own -/
def SqP (K : PySem.W.Frag) (H : Hp) (a : Addr) (xs : List V) : Prop :=
  (∃ o, H a = some (.frz o (.tup xs)) ∧ o.dict = none) ∨
    ∃ (o : Obj) (its : Array Value) (n : Nat), K.lookup a = some o ∧ o.cls = .type "tuple" ∧ o.dict = none ∧ o.data = .seq its n ∧ its.size ≤ sizeLine ∧ Vals xs its.toList
theorem SqP.seqT {K : PySem.W.Frag} {H : Hp} {a : Addr} {xs : List V} (h : SqP K H a xs) : SqT K H a xs := by
  rcases h with ⟨o, e, _⟩ | ⟨o, its, n, e, c, _, d, z, v⟩
  · exact .inl (.inr ⟨o, e⟩)
  · exact .inr ⟨o, its, n, e, c, d, z, v⟩
theorem SqP.of {K : PySem.W.Frag} {H : Hp} {a : Addr} {xs : List V} {o : Obj} (h : H a = some (.frz o (.tup xs))) (d : o.dict = none) : SqP K H a xs := .inl ⟨o, h, d⟩
section
variable {X : Cx} {pins : List (Addr × Obj)} {σ : St} {H : Hp} {s : Shared} {a : Addr} {xs : List V}
theorem Inv.plain (I : Inv X pins σ H s) (h : SqP X.K H a xs) : ∃ (o : Obj) (its : List Value) (n : Nat), Vals xs its ∧ s.heap.get? a = some o ∧ o.cls = .type "tuple" ∧ o.dict = none ∧ o.data = .seq its.toArray n ∧ xs.length ≤ sizeLine := by
  rcases h with ⟨o, e, d⟩ | ⟨o, its, n, e, c, d, dt, z, v⟩
  · obtain ⟨g, hz, its, rv, o', g', c, n, dt⟩ := I.hok a _ e
    have eo : o = o' := Option.some.inj (g.symm.trans g')
    subst eo
    exact ⟨o, its, n, rv, g, c, d, dt, hz⟩
  · have hl := v.length
    refine ⟨o, its.toList, n, v, I.kIn _ _ e, c, d, by rw [dt], by rw [hl]; simpa using z⟩
theorem new_frz {h' : Heap} {its : List Value} (r : Vals xs its) (hz : xs.length ≤ sizeLine) (e : h'.get? a = some { cls := .type "tuple", data := .seq its.toArray }) (P : Program) (w : World) :
    ObjOk P w H h' a (.frz { cls := .type "tuple", data := .seq its.toArray } (.tup xs)) := ⟨e, hz, its, r, ⟨_, e, rfl, _, rfl⟩⟩
end
section
variable {X : Cx}
/-! ### what makes them -/
def tTupN (t : TA) : TE := fun σ H Q => t σ H fun xs H1 => xs.length ≤ sizeLine ∧ ∀ p o, H1 p = none → o.dict = none → Q (.ref p) (upd H1 p (.frz o (.tup xs)))
theorem pe_tupN {es : List Expr} {t : TA} {pos : Pos} {x1} (h : PA X es t) : PE X (.Tuple es x1 pos) (tTupN t) := by
  refine ⟨fun pins s σ H Q I hq => ?_⟩
  refine wpAny_Tuple_spliced (thn (h.run pos pins s σ H _ I hq) fun us s1 ⟨xs, H1, I1, r, z, q⟩ => ⟨by rw [← r.length]; exact z, ?_⟩)
  have hf : H1 s1.heap.objs.size = none := I1.hok.fresh (Nat.le_refl _)
  exact ⟨.ref s1.heap.objs.size, _, I1.laid (t' := s1.toks) (fun b u e => Heap.get?_push_of_some _ e) (Nat.le_refl _) (new_frz r z (Heap.get?_push_size _ rfl) _ _), rfl, q _ _ hf rfl⟩
/-- t + u -/
def rCatN (K : PySem.W.Frag) : R2 := fun x y H Q => ∃ a b xs ys, x = .ref a ∧ y = .ref b ∧ SqT K H a xs ∧ SqT K H b ys ∧ xs.length + ys.length ≤ sizeLine ∧
  (xs = [] → Q (.ref b) H) ∧ (xs ≠ [] → ys = [] → Q (.ref a) H) ∧ (xs ≠ [] → ys ≠ [] → ∀ p o, H p = none → o.dict = none → Q (.ref p) (upd H p (.frz o (.tup (xs ++ ys)))))
theorem op_catN : OpR X (binaryOp .Add) (rCatN X.K) := by
  intro pins s σ H x y v u Q I rx ry h
  obtain ⟨a, b, xs, ys, rfl, rfl, ha, hb, hz, q0, q1, q2⟩ := h
  cases rx
  cases ry
  obtain ⟨its, r1, p1, _⟩ := I.tuple ha
  obtain ⟨its2, r2, p2, _⟩ := I.tuple hb
  by_cases hx : xs = []
  · subst hx
    cases r1
    exact cat_tup0 p1 p2 ⟨.ref b, H, I, rfl, q0 rfl⟩
  · refine HT.cat_tup p1 p2 (fun z => hx (r1.nil_iff.mp z)) (fun z => ⟨.ref a, H, I, rfl, q1 hx (r2.nil_iff.mp z)⟩) (fun z => ?_) (by rw [← r1.length, ← r2.length]; exact hz)
    exact ⟨.ref s.heap.objs.size, _, I.laid (t' := s.toks) (fun b ob q => Heap.get?_push_of_some _ q) (Nat.le_refl _) (new_frz (r1.append r2) (by rw [List.length_append]; exact hz) (Heap.get?_push_size _ rfl) _ _), rfl,
      q2 hx (fun w => z (r2.nil_iff.mpr w)) _ _ (I.hok.fresh (Nat.le_refl _)) rfl⟩
/-- t[lo:hi]: the whole of it is t itself -/
def rSlN (K : PySem.W.Frag) : V → Option Int → Option Int → Hp → VK → Prop := fun x lo hi H Q => ∃ a xs, x = .ref a ∧ SqT K H a xs ∧
  (HT.sIx xs.length 0 lo = 0 ∧ HT.sIx xs.length xs.length hi = xs.length → Q (.ref a) H) ∧ (¬ (HT.sIx xs.length 0 lo = 0 ∧ HT.sIx xs.length xs.length hi = xs.length) → ∀ p o, H p = none → o.dict = none → Q (.ref p) (upd H p (.frz o (.tup (cutV xs lo hi)))))
theorem sl_tupN : SlR X (rSlN X.K) := by
  intro pins s σ H x v vl vu lo hi sl Q I rx hs pl pu h
  obtain ⟨a, xs, rfl, hx, q1, q2⟩ := h
  cases rx
  obtain ⟨its, r, ht, hz⟩ := I.tuple hx
  have hlen : its.toArray.size = xs.length := by rw [List.size_toArray]; exact r.length.symm
  refine ⟨"tuple", _, PyProof.Rows.slot_tuple_getitem.lookup, ht.typeIs, ?_⟩
  by_cases hw : HT.sIx xs.length 0 lo = 0 ∧ HT.sIx xs.length xs.length hi = xs.length
  · exact getItem_tuple_whole ht hs pl pu (by rw [hlen]; exact hw) ⟨.ref a, H, I, rfl, q1 hw⟩
  · refine HT.getItem_tuple_cut ht hs pl pu (by rw [hlen]; exact hw) ?_ (by rw [hlen]; exact hz)
    rw [hlen]
    exact ⟨.ref s.heap.objs.size, _, I.laid (t' := s.toks) (fun b ob q => Heap.get?_push_of_some _ q) (Nat.le_refl _)
      (new_frz ((r.drop (HT.sIx xs.length 0 lo)).take (HT.sIx xs.length xs.length hi - HT.sIx xs.length 0 lo)) (Nat.le_trans (cutV_length xs lo hi) hz) (Heap.get?_push_size _ rfl) _ _), rfl, q2 hw _ _ (I.hok.fresh (Nat.le_refl _)) rfl⟩
/-- tuple(a list): a new one; of a tuple: itself -/
theorem call_tupleN : CallR X (.type "tuple") (fun xs H Q => ∃ p ys, xs = [.ref p] ∧ ((SqL X.K H p ys ∧ ∀ l o, H l = none → o.dict = none → Q (.ref l) (upd H l (.frz o (.tup ys)))) ∨ (SqT X.K H p ys ∧ Q (.ref p) H))) := by
  intro pins s σ H xs us Q I r h
  obtain ⟨p, ys, rfl, h⟩ := h
  obtain ⟨u, rfl, rx⟩ := vals1 r
  cases rx
  rcases h with ⟨hq, q⟩ | ⟨hq, q⟩
  · obtain ⟨its, r', pl, hz⟩ := I.list hq
    have hlen := r'.length
    refine call_tuple_list pl.isList (fun h' kp => ?_) (by simp only [List.size_toArray] <;> omega)
    have I1 : Inv X pins σ H { s with heap := h' } := I.kept (t' := s.toks) kp
    exact ⟨.ref h'.objs.size, _, I1.laid (t' := s.toks) (fun b o e => Heap.get?_push_of_some _ e) (Nat.le_refl _) (new_frz r' hz (Heap.get?_push_size _ rfl) _ _), rfl, q _ _ (I1.hok.fresh (Nat.le_refl _)) rfl⟩
  · obtain ⟨its, r', pl, hz⟩ := I.tuple hq
    exact call_tuple_same pl ⟨.ref p, H, I, rfl, q⟩
end
end L2
set_option Elab.async false
set_option linter.all false
set_option maxRecDepth 100000
set_option maxHeartbeats 4000000
namespace L2
open PySem PySem.Spec PyProof.Rows
/-! ### data that is shown: none, bools, ints, texts, lists, tuples, empty dicts -/
mutual
inductive Dq (K : PySem.W.Frag) (H : Hp) : V → PyData → Prop
  | non : Dq K H .non .none
  | bl (b : Bool) : Dq K H (.bl b) (.bool b)
  | int (i : Int) : Dq K H (.int i) (.int i)
  | str (x : Str) : Dq K H (.str x) (.str x)
  | lst {a : Addr} {xs : List V} {ds : List PyData} : SqL K H a xs → DqAll K H xs ds → Dq K H (.ref a) (.list ds)
  | tup {a : Addr} {xs : List V} {ds : List PyData} : SqP K H a xs → DqAll K H xs ds → Dq K H (.ref a) (.tuple ds)
  | dic {a : Addr} : H a = some (.dK []) → Dq K H (.ref a) (.dict [])
inductive DqAll (K : PySem.W.Frag) (H : Hp) : List V → List PyData → Prop
  | nil : DqAll K H [] []
  | cons {v : V} {vs : List V} {d : PyData} {ds : List PyData} : Dq K H v d → DqAll K H vs ds → DqAll K H (v :: vs) (d :: ds)
end
section
variable {X : Cx} {pins : List (Addr × Obj)} {σ : St} {H : Hp} {s : Shared}
theorem dic_at (I : Inv X pins σ H s) {a : Addr} (h : H a = some (.dK [])) : ∃ o n, s.heap.get? a = some o ∧ o.cls = .type "dict" ∧ o.data = .dict #[] n ∧ (a == sysModules) = false := by
  obtain ⟨_, hs, vs, r, o, es, ep, ho, hx, hd, _, he, _⟩ : ([] : List (Key × V)).length ≤ sizeLine ∧ (a == sysModules) = false ∧ ∃ vs, KV ([] : List (Key × V)) vs ∧ s.heap.DictOf (mixKind X.prog X.w) a vs := I.hok a _ h
  cases r
  have e0 : es = #[] := by
    have z : es.toList = [] := by
      generalize es.toList = l at he
      cases he
      rfl
    simpa using congrArg List.toArray z
  subst e0
  exact ⟨o, ep, ho, hx.1, hd, hs⟩
mutual
theorem Dq.reads (I : Inv X pins σ H s) : ∀ (d : PyData) (v : V) (u : Value), Dq X.K H v d → RelV v u → ∃ as, Reads s.heap u d as
  | .none, _, _, .non, r => by cases r; exact ⟨_, Reads.none⟩
  | .bool b, _, _, .bl _, r => by cases r; exact ⟨_, Reads.bool b⟩
  | .int i, _, _, .int _, r => by obtain ⟨t, rfl⟩ := r; exact ⟨_, Reads.int i t⟩
  | .str x, _, _, .str _, r => by obtain ⟨t, rfl⟩ := r; exact ⟨_, Reads.str x t⟩
  | .list ds, _, _, .lst hs ha, r => by
    cases r
    obtain ⟨its, rv, ⟨o, n, ho, hc, _, hd⟩, _⟩ := I.list hs
    obtain ⟨as, hr⟩ := Dq.readsAll I ds _ its ha rv
    exact ⟨_, Reads.list ho hc hd hr⟩
  | .tuple ds, _, _, .tup hs ha, r => by
    cases r
    obtain ⟨its, rv, ⟨o, ho, hc, n, hd⟩, _⟩ := I.tuple hs.seqT
    obtain ⟨as, hr⟩ := Dq.readsAll I ds _ its ha rv
    exact ⟨_, Reads.tuple ho hc hd hr⟩
  | .dict [], _, _, .dic h, r => by
    cases r
    obtain ⟨o, n, ho, hc, hd, _⟩ := dic_at I h
    exact ⟨_, Reads.dict ho hc hd .nil .nil⟩
theorem Dq.readsAll (I : Inv X pins σ H s) : ∀ (ds : List PyData) (vs : List V) (us : List Value), DqAll X.K H vs ds → Vals vs us → ∃ as, ReadsAll s.heap us ds as
  | [], _, _, .nil, r => by cases r; exact ⟨_, ReadsAll.nil⟩
  | d :: ds, _, _, .cons h1 h2, r => by
    cases r with
    | cons r1 r2 =>
      obtain ⟨as, q1⟩ := Dq.reads I d _ _ h1 r1
      obtain ⟨bs, q2⟩ := Dq.readsAll I ds _ _ h2 r2
      exact ⟨_, ReadsAll.cons q1 q2⟩
end
/-- what is to be known of shown data -/
structure Fits (d : PyData) : Prop where
  ok : d.showable = true
  sz : d.shown.length ≤ sizeLine
mutual
theorem Dq.repr (I : Inv X pins σ H s) : ∀ (d : PyData) (v : V) (u : Value), Dq X.K H v d → RelV v u → d.showable = true → d.shown.length ≤ sizeLine → ∃ bs, ReadAtMost s.heap d.depth bs ∧ ReprK X.prog X.w bs s.heap d.depth u d.shown
  | .none, _, _, .non, r, _, _ => by cases r; exact ⟨[], (fun _ h => nomatch h), by simp only [PyData.shown]; exact .of_is ReprIs.none _ _ _⟩
  | .bool b, _, _, .bl _, r, _, _ => by cases r; exact ⟨[], (fun _ h => nomatch h), by simp only [PyData.shown]; exact .of_is (ReprIs.bool b) _ _ _⟩
  | .int i, _, _, .int _, r, hs, _ => by obtain ⟨t, rfl⟩ := r; exact ⟨[], (fun _ h => nomatch h), by simp only [PyData.shown]; exact .of_is (ReprIs.int t (by simpa [PyData.showable] using hs)) _ _ _⟩
  | .str x, _, _, .str _, r, _, hz => by obtain ⟨t, rfl⟩ := r; exact ⟨[], (fun _ h => nomatch h), by simp only [PyData.shown]; exact .of_is (ReprIs.str x t (by simpa only [PyData.shown] using hz)) _ _ _⟩
  | .list ds, _, _, .lst hs ha, r, ok, hz => by
    have D : Dq X.K H _ (.list ds) := .lst hs ha
    obtain ⟨as, R⟩ := Dq.reads I _ _ _ D r
    cases r
    have zt : (listText (PyData.shownAll ds)).length ≤ sizeLine := by simpa only [PyData.shown] using hz
    obtain ⟨its, rv, ⟨o, n, ho, hc, _, hd⟩, _⟩ := I.list hs
    obtain ⟨bs, hb, hk⟩ := Dq.reprAll I ds _ its ha rv (by simpa [PyData.showable] using ok) fun t ht => Nat.le_trans (listText_mem_le ht) zt
    have off := not_mem_of_deeper R (show PyData.depthAll ds < (PyData.list ds).depth by simp only [PyData.depth]; omega) hb
    refine ⟨_ :: bs, ReadAtMost.cons R (by simp only [PyData.depth]; omega) hb, ?_⟩
    simp only [PyData.depth, PyData.shown]
    cases its with
    | nil =>
      have e : PyData.shownAll ds = [] := List.eq_nil_of_length_eq_zero (by simpa using hk.length_eq)
      rw [e, listText_nil]
      exact ReprK.listEmpty ho hc hd
    | cons x l => exact ReprK.list ho hc hd off (by simpa using hk.length_eq) fun i y e => hk.item i y (by simpa using e)
  | .tuple ds, _, _, .tup hs ha, r, ok, hz => by
    have D : Dq X.K H _ (.tuple ds) := .tup hs ha
    obtain ⟨as, R⟩ := Dq.reads I _ _ _ D r
    cases r
    have zt : (tupleText (PyData.shownAll ds)).length ≤ sizeLine := by simpa only [PyData.shown] using hz
    obtain ⟨its, rv, ⟨o, ho, hc, n, hd⟩, _⟩ := I.tuple hs.seqT
    obtain ⟨bs, hb, hk⟩ := Dq.reprAll I ds _ its ha rv (by simpa [PyData.showable] using ok) fun t ht => Nat.le_trans (tupleText_mem_le ht) zt
    have off := not_mem_of_deeper R (show PyData.depthAll ds < (PyData.tuple ds).depth by simp only [PyData.depth]; omega) hb
    refine ⟨_ :: bs, ReadAtMost.cons R (by simp only [PyData.depth]; omega) hb, ?_⟩
    simp only [PyData.depth, PyData.shown]
    exact ReprK.tuple ho hc hd off hk
  | .dict [], _, _, .dic h, r, ok, hz => by
    have D : Dq X.K H _ (.dict []) := .dic h
    obtain ⟨as, R⟩ := Dq.reads I _ _ _ D r
    cases r
    obtain ⟨o, n, ho, hc, hd, hs⟩ := dic_at I h
    refine ⟨[_], ReadAtMost.cons (n := 0) R (Nat.zero_le _) (fun _ h => nomatch h), ?_⟩
    simp only [PyData.depth, PyData.depthKv, PyData.shown, PyData.shownKv]
    exact ReprK.dict ho hc hd hs (by simp) .nil
theorem Dq.reprAll (I : Inv X pins σ H s) : ∀ (ds : List PyData) (vs : List V) (us : List Value), DqAll X.K H vs ds → Vals vs us → PyData.showableAll ds = true → (∀ t ∈ PyData.shownAll ds, t.length ≤ sizeLine) →
    ∃ bs, ReadAtMost s.heap (PyData.depthAll ds) bs ∧ ReprAllK X.prog X.w bs s.heap (PyData.depthAll ds) us (PyData.shownAll ds)
  | [], _, _, .nil, r, _, _ => by cases r; exact ⟨[], (fun _ h => nomatch h), by simp only [PyData.shownAll]; exact .nil⟩
  | d :: ds, _, _, .cons h1 h2, r, ok, hz => by
    cases r with
    | cons r1 r2 =>
      have ok' : d.showable = true ∧ PyData.showableAll ds = true := by simpa [PyData.showableAll] using ok
      obtain ⟨b1, m1, k1⟩ := Dq.repr I d _ _ h1 r1 ok'.1 (hz _ (by simp only [PyData.shownAll]; exact List.mem_cons_self ..))
      obtain ⟨b2, m2, k2⟩ := Dq.reprAll I ds _ _ h2 r2 ok'.2 fun t ht => hz t (by simp only [PyData.shownAll]; exact List.mem_cons_of_mem _ ht)
      refine ⟨b1 ++ b2, ?_, ?_⟩
      · simp only [PyData.depthAll]
        exact (m1.mono (Nat.le_max_left _ _)).append (m2.mono (Nat.le_max_right _ _))
      · simp only [PyData.depthAll, PyData.shownAll]
        exact .cons ((k1.more fun b hb => List.mem_append_left _ hb).level_le (Nat.le_max_left _ _)) (k2.more_le (fun b hb => List.mem_append_right _ hb) (Nat.le_max_right _ _))
end
/-- repr of a list -/
def rRepL (K : PySem.W.Frag) : List V → Hp → VK → Prop := fun xs H Q => ∃ (a : Addr) (ds : List PyData), xs = [.ref a] ∧ Dq K H (.ref a) (.list ds) ∧ (PyData.list ds).showable = true ∧ (PyData.list ds).shown.length ≤ sizeLine ∧ (PyData.list ds).depth ≤ 60 ∧ Q (.str (PyData.list ds).shown) H
theorem call_repL (hu : X.A.units + 64 < cLine) (hg : X.A.guards = some []) : CallR X (.builtin "repr") (rRepL X.K) := by
  intro pins s σ H xs us Q I r h
  obtain ⟨a, ds, rfl, D, ok, hz, hdep, q⟩ := h
  cases r with
  | cons rx rr =>
    cases rr
    have ru := rx
    cases rx
    obtain ⟨as, R⟩ := Dq.reads I _ _ _ D ru
    have zt : (listText (PyData.shownAll ds)).length ≤ sizeLine := by simpa only [PyData.shown] using hz
    have fin : ∀ (h' : Heap) (u : Tok) (tk : Nat), (∀ b o, s.heap.get? b = some o → h'.get? b = some o) → EP X pins σ Q (.str (listText (PyData.shownAll ds)) u) { s with heap := h', toks := tk } := fun h' u tk k => by
      refine ⟨.str _, H, I.kept (t' := tk) k, ⟨u, rfl⟩, ?_⟩
      simpa only [PyData.shown] using q
    cases D with
    | @lst _ xs _ hs ha =>
      obtain ⟨its, rv, ⟨o, n, ho, hc, _, hd⟩, _⟩ := I.list hs
      obtain ⟨bs, hb, hk⟩ := Dq.reprAll I ds _ its ha rv (by simpa [PyData.showable] using ok) fun t ht => Nat.le_trans (listText_mem_le ht) zt
      have off := not_mem_of_deeper R (show PyData.depthAll ds < (PyData.list ds).depth by simp only [PyData.depth]; omega) hb
      have hdep' : PyData.depthAll ds + 1 ≤ 60 := by simp only [PyData.depth] at hdep; omega
      refine call_repr_slot (by omega) ⟨o, ho, hc⟩ F.slot_list_repr.toG ?_
      cases its with
      | nil =>
        have e : PyData.shownAll ds = [] := List.eq_nil_of_length_eq_zero (by simpa using hk.length_eq)
        have z := fin s.heap s.toks (s.toks + 1) (fun _ _ e => e)
        rw [e, listText_nil] at z
        exact call_list_repr_empty ⟨o, ho, hc⟩ ho hd ⟨_, _, rfl, z⟩
      | cons x l =>
        exact call_list_reprK ho hc hd off (by simpa using hk.length_eq) (fun i y e => hk.item i y (by simpa using e)) hg (fun b _ => Clear.nil b) (by show X.A.units + 1 + _ < cLine; omega) (fun _ _ e => e) (fun h' u tk k => ⟨_, _, rfl, fin h' u tk k⟩) zt
end
end L2
set_option Elab.async false
set_option linter.all false
set_option maxRecDepth 100000
set_option maxHeartbeats 4000000
namespace Toy
open PySem L2
def top (i : Nat) : Stmt := PySem.Challenge.pw_holekinds_k07_shown_by_own_printer.main.body.getD i (.Pass ⟨0, 0, 0, 0⟩)
abbrev sWell : Stmt := top 57
abbrev sDraw : Stmt := top 58
abbrev sPick : Stmt := top 59
abbrev sSame : Stmt := top 60
/-! ### the well: a list of three ints at wl -/
def WellAt (H : Hp) (wl : Addr) : Prop := ∃ a b c : Int, H wl = some (.lst [.int a, .int b, .int c])
/-- all but the well stays -/
def But (wl : Addr) (H H' : Hp) : Prop := ∀ b o, b ≠ wl → H b = some o → H' b = some o
theorem But.refl {wl : Addr} (H : Hp) : But wl H H := fun _ _ _ h => h
theorem But.trans {wl : Addr} {H H1 H2 : Hp} (a : But wl H H1) (b : But wl H1 H2) : But wl H H2 := fun c o n h => b c o n (a c o n h)
theorem But.of {wl : Addr} {H H' : Hp} (a : Same H H') : But wl H H' := fun c o _ h => a c o h
theorem But.well {wl : Addr} {H : Hp} {o : HO} : But wl H (upd H wl o) := fun b u n h => by rw [upd_ne n]; exact h
theorem same_new {H : Hp} {p : Addr} (h : H p = none) (o : HO) : Same H (upd H p o) := fun b u q => by rw [upd_ne (ne_of_none q h)]; exact q
theorem But.new {wl p : Addr} {H : Hp} (h : H p = none) (o : HO) : But wl H (upd H p o) := .of (same_new h o)
/-! ### promises -/
def spDraw : Sp := fun vs H Q _ => ∃ (wl : Addr) (m : Int), vs = [.ref wl, .int m] ∧ 1 ≤ m ∧ m < 1073741824 ∧ WellAt H wl ∧
  ∀ (f : Int) (H' : Hp), 0 ≤ f → f < m → WellAt H' wl → But wl H H' → Q (.int f) H'
def spPick (K : PySem.W.Frag) : Sp := fun vs H Q _ => ∃ (wl t : Addr) (xs : List V), vs = [.ref wl, .ref t] ∧ WellAt H wl ∧ SqT K H t xs ∧ 1 ≤ xs.length ∧ xs.length < 1073741824 ∧
  ∀ (v : V) (H' : Hp), v ∈ xs → WellAt H' wl → But wl H H' → Q v H'
def spWell (K : PySem.W.Frag) : Sp := fun vs H Q _ => ∃ (a : Addr) (ns : List Int) (t : Int), vs = [.ref a, .int t] ∧ SqL K H a (ns.map V.int) ∧ ns.length ≤ 63 ∧ 0 ≤ t ∧ t ≤ 1000 ∧
  ∀ (p : Addr) (H' : Hp), Same H H' → H p = none → WellAt H' p → Q (.ref p) H'
def spSame (K : PySem.W.Frag) : Sp := fun vs H Q _ => ∃ (a b : Addr) (ds : List PyData), vs = [.ref a, .ref b] ∧ Dq K H (.ref a) (.list ds) ∧ Dq K H (.ref b) (.list ds) ∧ (PyData.list ds).showable = true ∧ (PyData.list ds).shown.length ≤ sizeLine ∧ (PyData.list ds).depth ≤ 60 ∧ Q (.bl true) H
/-- the built-in names that the text uses -/
structure Nm (mg : Str → Option Value) : Prop where
  int : mg "int" = none
  len : mg "len" = none
  abs : mg "abs" = none
  divmod : mg "divmod" = none
  repr : mg "repr" = none
section
variable {P : Program} {w : World} {K : PySem.W.Frag} {mg : Str → Option Value} {base : Heap}
theorem scD : FnScope ["well", "many", "figure", "seed"] ["well", "many"] (defScope sDraw) := ⟨rfl, rfl, rfl, by decide +kernel, rfl, by decide +kernel, by decide +kernel⟩
theorem ok_draw {f : Addr} {fd : FuncData} (F : Fun K "_law_draw" "_law_draw" sDraw f fd) (T : Nm mg) : FnOk P w K mg base CX0 1 f fd ["well", "many"] spDraw := by
  refine F.ok scD (fun vs H Q E h => ?_) (fun cdv A outer s H vs Q E hr h => ?_)
  · obtain ⟨wl, m, rfl, _⟩ := h
    rfl
  obtain ⟨wl, m, rfl, h1, h2, ⟨a, b, c, hw⟩, q⟩ := h
  have ix : ∀ {X : Cx} (j : Int) {p1 p2 p3 : Pos} {k : Nat}, X.N[0]? = some (Str.ofString "well") → Vis X.env.scope "well" → PE X (.Subscript (.Name "well" p1) (.Constant (.int j) k p2) p3) (tOp (rIxL X.K) (tVar 0) (tC (.int j))) := fun j _ _ _ _ hN hv => pe_ix ix_list (pe_var hN hv) pe_int (fun _ _ => rfl)
  refine ⟨_, pss_cons (ps_if (pt_cmpR op_gt (ix 0 rfl (.inl rfl)) pe_int (nomark _))
      (pss_cons (ps_asg (pe_callB call_divmod rfl T.divmod (by decide +kernel) (pa_cons (ix 0 rfl (.inl rfl)) (pa_cons (pv 1) pa_nil))) (pg_tup rfl (pgs_cons (pg_sub (pv 0) pe_int set_list) (pgs_cons (pg_name (i := 2) scD.nd rfl (.inl rfl)) pgs_nil))))
      (pss_one (ps_ret (pv 2)))) pss_nil)
    (pss_cons (ps_asg (pe_op op_add (ix 2 rfl (.inl rfl)) pe_int) (pg_sub (pv 0) pe_int set_list))
    (pss_cons (ps_set (i := 3) scD.nd rfl (.inl rfl) (pe_op op_mod (pe_callTy call_int1 rfl T.int (by decide +kernel) (pa_cons (pe_op op_add (ix 1 rfl (.inl rfl)) (pe_op op_mul pe_int (ix 2 rfl (.inl rfl)))) pa_nil)) pe_int))
    (pss_cons (ps_asg (pe_op op_mod (pe_callTy call_int1 rfl T.int (by decide +kernel) (pa_cons (pe_op op_add (pe_op op_mul (pv 3) (pe_op op_add (pe_op op_mod (pe_callTy call_int1 rfl T.int (by decide +kernel) (pa_cons (pv 3) pa_nil)) pe_int) pe_int)) (pe_op op_mul pe_int (ix 2 rfl (.inl rfl)))) pa_nil)) pe_int) (pg_sub (pv 0) pe_int set_list))
    (pss_one (ps_ret (pe_op op_mod (pe_callTy call_int1 rfl T.int (by decide +kernel) (pa_cons (pe_op op_fdiv (ix 1 rfl (.inl rfl)) pe_int) pa_nil)) (pv 1))))))), ?_⟩
  refine ⟨_, rfl, wl, _, 0, _, rfl, rfl, SqL.of hw, rfl, _, _, rfl, rfl, _, rfl, ?_⟩
  refine ite2 (fun hc => ?_) (fun hc => ?_)
  · refine ⟨_, rfl, wl, _, 0, _, rfl, rfl, SqL.of hw, rfl, _, rfl, _, _, rfl, ⟨by omega, h2⟩, fun p hp => ?_⟩
    have hw' : upd H p (.tup [.int (a / m), .int (a % m)]) wl = some (.lst [.int a, .int b, .int c]) := by rw [upd_ne (ne_of_none hw hp)]; exact hw
    refine ⟨_, _, rfl, SqT.of upd_same, rfl, _, _, rfl, _, rfl, wl, _, 0, 0, rfl, rfl, hw', rfl, _, _, rfl, rfl, ?_⟩
    refine ⟨_, rfl, q (a % m) _ (Int.emod_nonneg _ (by omega)) (Int.emod_lt_of_pos _ (by omega)) ⟨_, _, _, upd_same⟩ ?_⟩
    exact (But.new hp _).trans But.well
  · have r31 : ∀ x : Int, 0 ≤ x % 2147483423 ∧ x % 2147483423 < 2147483423 := fun x => ⟨Int.emod_nonneg _ (by omega), Int.emod_lt_of_pos _ (by omega)⟩
    have hp31 : (0 : Int) < 2147483423 := by decide
    refine ⟨_, rfl, wl, _, 2, _, rfl, rfl, SqL.of hw, rfl, _, _, rfl, rfl, _, rfl, wl, _, 2, 2, rfl, rfl, hw, rfl, ?_⟩
    have h3 : upd H wl (.lst ([V.int a, V.int b, V.int c].set 2 (V.int (c + 1)))) wl = some (.lst [.int a, .int b, .int (c + 1)]) := upd_same
    refine ⟨_, rfl, wl, _, 1, _, rfl, rfl, SqL.of h3, rfl, _, rfl, wl, _, 2, _, rfl, rfl, SqL.of h3, rfl, _, _, rfl, rfl, .inl ⟨by decide, by decide⟩, _, _, rfl, rfl, .inl ⟨_, rfl, _, _, rfl, rfl, hp31, ?_⟩⟩
    obtain ⟨s1, s2⟩ := r31 (b + 50021 * (c + 1))
    refine ⟨_, rfl, _, rfl, .inl ⟨_, rfl, _, _, rfl, rfl, (by show (0 : Int) < 4001; decide), _, _, rfl, rfl, _, _, rfl, rfl, .inl ⟨by omega, by omega⟩, _, rfl, wl, _, 2, _, rfl, rfl, SqL.of h3, rfl, _, _, rfl, rfl, .inl ⟨by decide, by decide⟩, _, _, rfl, rfl, .inl ⟨_, rfl, _, _, rfl, rfl, hp31, _, rfl, wl, _, 1, 1, rfl, rfl, h3, rfl, ?_⟩⟩⟩
    refine ⟨_, rfl, wl, _, 1, _, rfl, rfl, SqL.of upd_same, rfl, _, _, rfl, rfl, ⟨by decide, by decide⟩, .inl ⟨_, rfl, _, rfl, _, _, rfl, rfl, by show (0 : Int) < m; omega, ?_⟩⟩
    exact q _ _ (Int.emod_nonneg _ (by omega)) (Int.emod_lt_of_pos _ (by omega)) ⟨_, _, _, upd_same⟩ (But.well.trans But.well)
theorem scP : FnScope ["well", "some"] ["well", "some"] (defScope sPick) := ⟨rfl, rfl, rfl, by decide +kernel, rfl, by decide +kernel, by decide +kernel⟩
theorem ok_pick {f g : Addr} {fd gd : FuncData} (F : Fun K "_law_pick" "_law_pick" sPick f fd) (T : Nm mg) (G : FnOk P w K mg base CX0 1 g gd ["well", "many"] spDraw) (bG : Binds K gd ["well", "many"] []) (kG : PySem.W.keepIn K (.ref g) = true) (mG : mg "_law_draw" = some (.ref g)) :
    FnOk P w K mg base CX0 2 f fd ["well", "some"] (spPick K) := by
  refine F.ok scP (fun vs H Q E h => ?_) (fun cdv A outer s H vs Q E hr h => ?_)
  · obtain ⟨wl, t, xs, rfl, _⟩ := h
    rfl
  obtain ⟨wl, t, xs, rfl, hw, ht, h1, h2, q⟩ := h
  refine ⟨_, pss_one (ps_ret (pe_ix ix_tup (pv 1) (pe_call G hr rfl mG kG bG .nil pass0 (pa_cons (pv 0) (pa_cons (pe_callB call_len_seq rfl T.len PySem.boot_len (pa_cons (pv 1) pa_nil)) pa_nil))) (fun _ _ => rfl))), ?_⟩
  refine ⟨_, rfl, _, rfl, _, rfl, t, _, rfl, .inr ht, wl, _, rfl, by omega, by omega, hw, fun i H' hi0 hi1 hw' hb => ?_⟩
  obtain ⟨a, b, c, hw0⟩ := hw
  have ht' : SqT K H' t xs := by
    rcases ht with (z | ⟨o, z⟩) | z
    · exact .inl (.inl (hb t _ (ne_of z hw0 (by intro y; cases y)) z))
    · exact .inl (.inr ⟨o, hb t _ (ne_of z hw0 (by intro y; cases y)) z⟩)
    · exact .inr z
  have hlt : i.toNat < xs.length := by omega
  have e : i = ((i.toNat : Nat) : Int) := by omega
  refine ⟨t, xs, i, xs[i.toNat], rfl, rfl, ht', ?_, q _ H' (List.getElem_mem hlt) hw' hb⟩
  have z := atI_nat (xs := xs) (j := i.toNat) (v := xs[i.toNat]) (List.getElem?_eq_getElem hlt)
  rw [← e] at z
  exact z
theorem scS : FnScope ["told", "due"] ["told", "due"] (defScope sSame) := ⟨rfl, rfl, rfl, by decide +kernel, rfl, by decide +kernel, by decide +kernel⟩
theorem ok_same {f : Addr} {fd : FuncData} (F : Fun K "_law_same" "_law_same" sSame f fd) (T : Nm mg) : FnZ (RoomG 1) P w K mg base f fd ["told", "due"] (spSame K) := by
  refine F.okZ true scS (fun A z => z.depth) (fun _ A z => z.room.hd) (fun vs H Q E h => ?_) (fun cdv A outer s H vs Q hz h => ?_)
  · obtain ⟨a, b, ds, rfl, _⟩ := h
    rfl
  obtain ⟨a, b, ds, rfl, ha, hb, ok, sz, dp, q⟩ := h
  have hz' : ∀ env, RoomG 0 (A.deeper env) := fun env => hz.deeper env
  have hu : ∀ env, (A.deeper env).units + 64 < cLine := fun env => by
    have y := (hz' env).room.un
    omega
  refine ⟨_, pss_one (ps_ret (pe_cmpR op_eq (pe_callB (call_repL (hu _) (hz' _).gs) rfl T.repr (by decide +kernel) (pa_cons (pv 0) pa_nil)) (pe_callB (call_repL (hu _) (hz' _).gs) rfl T.repr (by decide +kernel) (pa_cons (pv 1) pa_nil)) (nomark _))), ?_⟩
  refine ⟨_, rfl, a, ds, rfl, ha, ok, sz, dp, _, rfl, b, ds, rfl, hb, ok, sz, dp, rfl, ?_⟩
  rw [decide_eq_true rfl]
  exact q
theorem cut_int {ns : List Int} {lo hi : Option Int} {i : Nat} {y : V} (h : (cutV (ns.map V.int) lo hi)[i]? = some y) : ∃ z, y = V.int z := by
  have m : y ∈ cutV (ns.map V.int) lo hi := List.mem_of_getElem? h
  unfold cutV at m
  have m2 := List.mem_of_mem_drop (List.mem_of_mem_take m)
  obtain ⟨z, _, e⟩ := List.mem_map.mp m2
  exact ⟨z, e.symm⟩
theorem pe_intc {X : Cx} {e : Expr} {te : TE} {p pos : Pos} (hm : X.mg "int" = none) (he : PE X e te) (hg : Gl X "int" := by rfl) (hs : starEach [e] X.env = (false, eval e X.env) :: starEach [] X.env := by rfl) :
    PE X (.Call (.Name "int" p) [e] [] pos) (tCB (fun xs H Q => (∃ i, xs = [.int i] ∧ Q (.int i) H) ∨ ∃ k, xs = [.bl k] ∧ Q (.int (if k then 1 else 0)) H) (tCons te tNil)) := pe_callTy call_int1 hg hm (by decide +kernel) (pa_cons he pa_nil (hs := hs)) (he := hs)
theorem scW : FnScope ["script", "turn", "mixed", "cell", "own"] ["script", "turn"] (defScope sWell) := ⟨rfl, rfl, rfl, by decide +kernel, rfl, by decide +kernel, by decide +kernel⟩
theorem ok_well {f : Addr} {fd : FuncData} (F : Fun K "_law_well" "_law_well" sWell f fd) (T : Nm mg) : FnOk P w K mg base CX0 1 f fd ["script", "turn"] (spWell K) := by
  refine F.ok scW (fun vs H Q E h => ?_) (fun cdv A outer s H vs Q E hr h => ?_)
  · obtain ⟨a, ns, t, rfl, _⟩ := h
    rfl
  obtain ⟨a, ns, t, rfl, hS, h63, ht0, ht1, q⟩ := h
  refine ⟨_, pss_cons (ps_set (i := 2) scW.nd rfl (.inl rfl) (pe_op op_add pe_int (pe_op op_mul pe_int (pv 1))))
    (pss_cons (ps_for PassesOwn.never rfl (pi_list (pe_slice sl_list (pv 0) po_none (po_some pe_int))) (pg_name (i := 3) scW.nd rfl (.inl rfl))
      (pss_one (ps_set (i := 2) scW.nd rfl (.inl rfl) (pe_op op_mod (pe_intc T.int (pe_op op_add (pe_op op_add (pe_op op_mul (pv 2) pe_int) (pe_op op_mod (pe_intc T.int (pv 3)) pe_int)) pe_int)) pe_int))))
    (pss_cons (ps_set (i := 4) scW.nd rfl (.inl rfl) (pe_ifExp (pt_cmpR op_lt (pv 1) (pe_callB call_len_seq rfl T.len PySem.boot_len (pa_cons (pv 0) pa_nil)) (nomark _)) (pe_intc T.int (pe_ix ix_list (pv 0) (pv 1) (fun _ _ => rfl))) pe_int))
    (pss_cons (ps_set (i := 2) scW.nd rfl (.inl rfl) (pe_op op_mod (pe_intc T.int (pe_op op_add (pe_op op_add (pe_op op_mul (pv 2) pe_int) (pe_op op_mul (pe_op op_mod (pe_intc T.int (pv 4)) pe_int) pe_int)) pe_int)) pe_int))
    (pss_one (ps_ret (pe_lst (pa_cons (pe_ifExp (PW.pt (pw_or (pt_cmpR op_lt (pv 4) pe_int (nomark _)) (pw_or1 (pt_cmpR op_ge (pv 4) (pe_op op_pow pe_int pe_int) (nomark _))))) (pe_callB call_abs rfl T.abs (by decide +kernel) (pa_cons (pv 4) pa_nil)) pe_int) (pa_cons (pv 2) (pa_cons pe_int pa_nil))))))))), ?_⟩
  have hp1 : (0 : Int) < 2147483477 := by decide
  have hp2 : (0 : Int) < 2147483423 := by decide
  refine ⟨_, rfl, _, _, rfl, rfl, .inl ⟨by decide, by decide⟩, _, _, rfl, rfl, ?_⟩
  refine ⟨_, rfl, _, rfl, a, _, rfl, hS, fun p hp => ?_⟩
  have hp' : upd H p (.lst (cutV (ns.map V.int) none (some 10))) p = some (.lst (cutV (ns.map V.int) none (some 10))) := upd_same
  have sm := same_new hp (.lst (cutV (ns.map V.int) none (some 10)))
  have hS' := sm.seq hS
  generalize upd H p (.lst (cutV (ns.map V.int) none (some 10))) = H1 at hp' sm hS' ⊢
  refine ⟨p, rfl, ⟨_, SqL.of hp'⟩, for_list (K := K) (a := p) (xs := cutV (ns.map V.int) none (some 10)) (fun i σ H2 => H2 = H1 ∧ ∃ (m : Int) (c : Option V), σ = [some (.ref a), some (.int t), some (.int m), c, none])
    ⟨rfl, _, _, rfl⟩ (fun i σ H2 _ z => by obtain ⟨rfl, _⟩ := z; exact SqL.of hp') ?_ ?_⟩
  · rintro i y σ H2 hi ⟨rfl, m, c, rfl⟩
    obtain ⟨z, rfl⟩ := cut_int hi
    refine ⟨_, rfl, _, _, rfl, rfl, .inr ⟨by decide, by decide⟩, _, rfl, .inl ⟨_, rfl, _, _, rfl, rfl, hp1, _, _, rfl, rfl, _, _, rfl, rfl, .inl ⟨_, rfl, _, _, rfl, rfl, hp2, ?_⟩⟩⟩
    exact ⟨rfl, _, _, rfl⟩
  · rintro σ H2 ⟨rfl, m, c, rfl⟩
    refine ⟨_, rfl, _, rfl, a, _, rfl, .inl hS', _, _, rfl, rfl, _, rfl, ?_⟩
    have fin : ∀ (x y : Int) (p' : Addr), H2 p' = none → Q (.ref p') (upd H2 p' (.lst [.int x, .int y, .int 0])) := fun x y p' hn => by
      have s3 := sm.trans (same_new hn (.lst [.int x, .int y, .int 0]))
      exact q p' _ s3 (sm.free hn) ⟨_, _, _, upd_same⟩
    have sz : 3 ≤ sizeLine := by decide
    refine ite2 (fun hc => ?_) (fun hc => ?_)
    · have hc' : t < (((ns.map V.int).length : Nat) : Int) := of_decide_eq_true hc
      rw [List.length_map] at hc'
      have hlt : t.toNat < ns.length := by omega
      have e : t = ((t.toNat : Nat) : Int) := by omega
      have z := atI_nat (xs := ns.map V.int) (j := t.toNat) (v := .int ns[t.toNat]) (by rw [List.getElem?_map, List.getElem?_eq_getElem hlt] <;> rfl)
      rw [← e] at z
      refine ⟨_, rfl, _, rfl, a, _, _, _, rfl, rfl, hS', z, .inl ⟨_, rfl, ?_⟩⟩
      refine ⟨_, rfl, _, _, rfl, rfl, .inr ⟨by decide, by decide⟩, _, rfl, .inl ⟨_, rfl, _, _, rfl, rfl, hp1, _, _, rfl, rfl, .inr ⟨by decide, by decide⟩, _, _, rfl, rfl, _, _, rfl, rfl, .inl ⟨_, rfl, _, _, rfl, rfl, hp2, ?_⟩⟩⟩
      refine ⟨_, rfl, _, _, rfl, rfl, _, rfl, ?_⟩
      refine ite2 (fun _ => ?_) (fun _ => ?_)
      · exact iteT ⟨_, rfl, _, rfl, _, rfl, sz, fun p' hn => fin _ _ p' hn⟩
      · refine ⟨_, rfl, _, _, rfl, rfl, ⟨by decide, by decide, by decide⟩, _, _, rfl, rfl, _, rfl, ?_⟩
        refine ite2 (fun _ => ?_) (fun _ => ?_)
        · exact ⟨_, rfl, _, rfl, _, rfl, sz, fun p' hn => fin _ _ p' hn⟩
        · exact ⟨_, rfl, sz, fun p' hn => fin _ _ p' hn⟩
    · refine ⟨_, rfl, _, _, rfl, rfl, .inr ⟨by decide, by decide⟩, _, rfl, .inl ⟨_, rfl, _, _, rfl, rfl, hp1, _, _, rfl, rfl, .inr ⟨by decide, by decide⟩, _, _, rfl, rfl, _, _, rfl, rfl, .inl ⟨_, rfl, _, _, rfl, rfl, hp2, ?_⟩⟩⟩
      refine ⟨_, rfl, _, _, rfl, rfl, _, rfl, ?_⟩
      refine ite2 (fun _ => ?_) (fun _ => ?_)
      · exact iteT ⟨_, rfl, _, rfl, _, rfl, sz, fun p' hn => fin _ _ p' hn⟩
      · refine ⟨_, rfl, _, _, rfl, rfl, ⟨by decide, by decide, by decide⟩, _, _, rfl, rfl, _, rfl, ?_⟩
        refine ite2 (fun _ => ?_) (fun _ => ?_)
        · exact ⟨_, rfl, _, rfl, _, rfl, sz, fun p' hn => fin _ _ p' hn⟩
        · exact ⟨_, rfl, sz, fun p' hn => fin _ _ p' hn⟩
end
end Toy
set_option Elab.async false
set_option linter.all false
set_option maxRecDepth 100000
set_option maxHeartbeats 4000000
namespace L2
open PySem PySem.Spec PyProof.Rows
theorem PE.imp {X : Cx} {e : Expr} {t t' : TE} (h : PE X e t) (i : ∀ σ H Q, t' σ H Q → t σ H Q) : PE X e t' := ⟨fun pins s σ H Q I q => h.run pins s σ H Q I (i σ H Q q)⟩
theorem PA.imp {X : Cx} {es : List Expr} {t t' : TA} (h : PA X es t) (i : ∀ σ H Q, t' σ H Q → t σ H Q) : PA X es t' := ⟨fun pos pins s σ H Q I q => h.run pos pins s σ H Q I (i σ H Q q)⟩
theorem Same.seqT {K : PySem.W.Frag} {H H' : Hp} {a : Addr} {xs : List V} (e : Same H H') (h : SqT K H a xs) : SqT K H' a xs := by
  rcases h with (h | ⟨o, h⟩) | h
  · exact .inl (.inl (e _ _ h))
  · exact .inl (.inr ⟨o, e _ _ h⟩)
  · exact .inr h
theorem Same.seqP {K : PySem.W.Frag} {H H' : Hp} {a : Addr} {xs : List V} (e : Same H H') (h : SqP K H a xs) : SqP K H' a xs := by
  rcases h with ⟨o, h, d⟩ | h
  · exact .inl ⟨o, e _ _ h, d⟩
  · exact .inr h
mutual
theorem Dq.mono {K : PySem.W.Frag} {H H' : Hp} (e : Same H H') : ∀ (d : PyData) (v : V), Dq K H v d → Dq K H' v d
  | .none, _, .non => .non
  | .bool _, _, .bl b => .bl b
  | .int _, _, .int i => .int i
  | .str _, _, .str x => .str x
  | .list ds, _, .lst h a => .lst (e.seq h) (DqAll.mono e ds _ a)
  | .tuple ds, _, .tup h a => .tup (e.seqP h) (DqAll.mono e ds _ a)
  | .dict [], _, .dic h => .dic (e _ _ h)
theorem DqAll.mono {K : PySem.W.Frag} {H H' : Hp} (e : Same H H') : ∀ (ds : List PyData) (vs : List V), DqAll K H vs ds → DqAll K H' vs ds
  | [], _, .nil => .nil
  | d :: ds, _, .cons h r => .cons (Dq.mono e d _ h) (DqAll.mono e ds _ r)
end
theorem DqAll.append {K : PySem.W.Frag} {H : Hp} : ∀ {vs ws : List V} {ds es : List PyData}, DqAll K H vs ds → DqAll K H ws es → DqAll K H (vs ++ ws) (ds ++ es)
  | [], _, [], _, .nil, s => s
  | _ :: _, _, _ :: _, _, .cons r t, s => .cons r (DqAll.append t s)
theorem DqAll.get {K : PySem.W.Frag} {H : Hp} : ∀ {vs : List V} {ds : List PyData} {v : V}, DqAll K H vs ds → v ∈ vs → ∃ d, d ∈ ds ∧ Dq K H v d
  | v :: vs, d :: ds, x, .cons r t, m => by
    rcases List.mem_cons.mp m with rfl | m
    · exact ⟨d, List.mem_cons_self, r⟩
    · obtain ⟨d', h1, h2⟩ := DqAll.get t m
      exact ⟨d', List.mem_cons_of_mem _ h1, h2⟩
theorem DqAll.len {K : PySem.W.Frag} {H : Hp} : ∀ {vs : List V} {ds : List PyData}, DqAll K H vs ds → vs.length = ds.length
  | [], [], .nil => rfl
  | _ :: _, _ :: _, .cons _ t => congrArg Nat.succ (DqAll.len t)
/-- what is new in H' -/
def newer (H H' : Hp) : Hp := fun b => match H b with | none => H' b | some _ => none
theorem newer_of {H H' : Hp} {b : Addr} (h : H b = none) : newer H H' b = H' b := by unfold newer; rw [h]
theorem newer_same {H H1 H2 : Hp} (e : Same H1 H2) : Same (newer H H1) (newer H H2) := fun b o h => by
  unfold newer at h ⊢
  cases q : H b with
  | none => rw [q] at h; exact e _ _ h
  | some u => rw [q] at h; cases h
theorem newer_ahead {H H1 H2 : Hp} (e : Same H H1) : Same (newer H1 H2) (newer H H2) := fun b o h => by
  unfold newer at h ⊢
  cases q : H1 b with
  | none => rw [q] at h; rw [e.free q]; exact h
  | some u => rw [q] at h; cases h
theorem newer_all {H H' : Hp} : Same (newer H H') H' := fun b o h => by
  unfold newer at h
  cases q : H b with
  | none => rw [q] at h; exact h
  | some u => rw [q] at h; cases h
/-! ### written data -/
mutual
inductive ED : Expr → PyData → Prop
  | non {j p} : ED (.Constant .none j p) .none
  | bl {b j p} : ED (.Constant (.bool b) j p) (.bool b)
  | int {i j p} : ED (.Constant (.int i) j p) (.int i)
  | str {x j p} : ED (.Constant (.str x) j p) (.str x)
  | neg {i j p p'} : ED (.UnaryOp .USub (.Constant (.int i) j p) p') (.int (-i))
  | pow {i j k k' p p' p''} : CPow i j → ED (.BinOp (.Constant (.int i) k p) .Pow (.Constant (.int j) k' p') p'') (.int (i ^ j.toNat))
  | tup {es ds k p} : EDs es ds → ds.length ≤ 1000 → ED (.Tuple es k p) (.tuple ds)
  | lst {es ds p} : EDs es ds → ds.length ≤ 1000 → ED (.List es p) (.list ds)
  | dic {p} : ED (.Dict [] [] p) (.dict [])
inductive EDs : List Expr → List PyData → Prop
  | nil : EDs [] []
  | cons {e es d ds} : ED e d → EDs es ds → EDs (e :: es) (d :: ds)
end
theorem ED.star {e : Expr} {d : PyData} (h : ED e d) (es : List Expr) (env : Env) : starEach (e :: es) env = (false, eval e env) :: starEach es env := by
  cases h <;> rfl
def tData (K : PySem.W.Frag) (d : PyData) : TE := fun σ H Q => ∀ v H', Same H H' → Dq K (newer H H') v d → Q v H'
def tDatas (K : PySem.W.Frag) (ds : List PyData) : TA := fun σ H Q => ∀ vs H', Same H H' → DqAll K (newer H H') vs ds → Q vs H'
theorem sz1000 {n : Nat} (h : n ≤ 1000) : n ≤ sizeLine := Nat.le_of_lt (small1000 h)
mutual
theorem ED.pe {X : Cx} : ∀ {e : Expr} {d : PyData}, ED e d → PE X e (tData X.K d)
  | _, _, .non => pe_non.imp fun σ H Q q => q _ H (Same.refl H) .non
  | _, _, .bl => pe_bl.imp fun σ H Q q => q _ H (Same.refl H) (.bl _)
  | _, _, .int => pe_int.imp fun σ H Q q => q _ H (Same.refl H) (.int _)
  | _, _, .str => pe_str.imp fun σ H Q q => q _ H (Same.refl H) (.str _)
  | _, _, .neg => (pe_un un_neg pe_int).imp fun σ H Q q => ⟨_, rfl, q _ H (Same.refl H) (.int _)⟩
  | _, _, .pow c => (pe_op op_pow pe_int pe_int).imp fun σ H Q q => ⟨_, _, rfl, rfl, c, q _ H (Same.refl H) (.int _)⟩
  | _, _, .dic => pe_dnewK.imp fun σ H Q q => fun p hp => q _ _ (fun b o h => by rw [upd_ne (ne_of_none h hp)]; exact h) (.dic (by rw [newer_of hp]; exact upd_same))
  | _, _, .tup h z => (pe_tupN (EDs.pa h)).imp fun σ H Q q => fun vs H1 s1 D => ⟨by rw [D.len]; exact sz1000 z, fun p ob hp hob => by
      have s2 : Same H1 (upd H1 p (.frz ob (.tup vs))) := fun b o h => by rw [upd_ne (ne_of_none h hp)]; exact h
      refine q _ _ (s1.trans s2) (.tup (SqP.of (by rw [newer_of (s1.free hp)]; exact upd_same) hob) (DqAll.mono (newer_same s2) _ _ D))⟩
  | _, _, .lst h z => (pe_lst (EDs.pa h)).imp fun σ H Q q => fun vs H1 s1 D => ⟨by rw [D.len]; exact sz1000 z, fun p hp => by
      have s2 : Same H1 (upd H1 p (.lst vs)) := fun b o h => by rw [upd_ne (ne_of_none h hp)]; exact h
      refine q _ _ (s1.trans s2) (.lst (SqL.of (by rw [newer_of (s1.free hp)]; exact upd_same)) (DqAll.mono (newer_same s2) _ _ D))⟩
theorem EDs.pa {X : Cx} : ∀ {es : List Expr} {ds : List PyData}, EDs es ds → PA X es (tDatas X.K ds)
  | _, _, .nil => pa_nil.imp fun σ H Q q => q [] H (Same.refl H) .nil
  | _, _, .cons h r => (pa_cons (ED.pe h) (EDs.pa r) (hs := h.star _ _)).imp fun σ H Q q => fun v H1 s1 D => fun vs H2 s2 Ds => q _ _ (s1.trans s2) (.cons (Dq.mono (newer_same s2) _ _ D) (DqAll.mono (newer_ahead s1) _ _ Ds))
end
end L2
set_option Elab.async false
set_option linter.all false
set_option maxRecDepth 100000
set_option maxHeartbeats 4000000
namespace Toy
open PySem L2
def asgVal : Stmt → Expr
  | .Assign _ e _ => e
  | _ => .Constant .none 0 ⟨0, 0, 0, 0⟩
abbrev ds (x : String) : PyData := .str (Str.ofString x)
abbrev dt (l : List PyData) : PyData := .tuple l
abbrev di (i : Int) : PyData := .int i
def dSome : List PyData := [.none, .bool true, .bool false, di 0, di 1, di (-1), di 12, di (10 ^ 30), ds "", ds "thing", ds "Row", ds "Row'", ds "Row'Tree", ds "row", ds "left", dt [], dt [di 0]]
def dMore : List PyData := [dt [ds "thing"], dt [ds "thing", dt []], dt [ds "none"], dt [ds "name", ds "Row"], dt [ds "name", ds "row"], dt [ds "unit", di 1], dt [ds "pair", dt [ds "thing"]]]
def dEnds : List PyData := [dt [ds "pair", di 5, di 6], dt [ds "either", dt [ds "unit"], dt [ds "thing"]], dt [ds "left", dt []], dt [ds "right", .bool true], .list [], .list [ds "thing"], .dict [], dt [dt []]]
def dLast : List PyData := [dt [di 1, di 2], dt [di 1, .bool true], dt [ds "next"], dt [ds "put", di 3], dt [dt [ds "Row", dt [ds "unit"]]], dt [dt [ds "unit"]], dt [.none], dt [ds "left", di 1, di 2]]
def dOdd : List PyData := dSome ++ dMore ++ dEnds ++ dLast
theorem But.free {wl b : Addr} {H H' : Hp} (e : But wl H H') (w : WellAt H' wl) (h : H' b = none) : H b = none := by
  cases q : H b with
  | none => rfl
  | some o =>
    by_cases n : b = wl
    · obtain ⟨_, _, _, z⟩ := w
      rw [n, z] at h
      cases h
    · rw [e b o n q] at h
      cases h
theorem newerB {wl : Addr} {H H1 H2 : Hp} (w : WellAt H wl) (e : But wl H1 H2) : Same (newer H H1) (newer H H2) := fun b o h => by
  unfold newer at h ⊢
  cases q : H b with
  | none =>
    rw [q] at h
    exact e b o (fun n => by obtain ⟨_, _, _, z⟩ := w; rw [n, z] at q; cases q) h
  | some u => rw [q] at h; cases h
theorem aheadB {wl : Addr} {H H1 H2 : Hp} (e : But wl H H1) (w : WellAt H1 wl) : Same (newer H1 H2) (newer H H2) := fun b o h => by
  unfold newer at h ⊢
  cases q : H1 b with
  | none => rw [q] at h; rw [e.free w q]; exact h
  | some u => rw [q] at h; cases h
def spOdd (K : PySem.W.Frag) : Sp := fun vs H Q _ => ∃ (wl : Addr), vs = [.ref wl] ∧ WellAt H wl ∧ ∀ (v : V) (H' : Hp) (d : PyData), d ∈ dOdd → Dq K (newer H H') v d → WellAt H' wl → But wl H H' → Q v H'
section
variable {P : Program} {w : World} {K : PySem.W.Frag} {mg : Str → Option Value} {base : Heap}
theorem dq_tup {H : Hp} {v : V} {l : List PyData} (h : Dq K H v (.tuple l)) : ∃ a xs, v = .ref a ∧ SqT K H a xs ∧ DqAll K H xs l := by
  cases h with
  | tup h a => exact ⟨_, _, rfl, h.seqT, a⟩
end
end Toy
set_option Elab.async false
set_option linter.all false
set_option maxRecDepth 100000
set_option maxHeartbeats 4000000
namespace L2
open PySem PySem.Spec PyProof.Rows
/-! ### the law's own end, by such a promise -/
theorem law_callZ {Z : Around → Prop} {P : Program} {w : World} {K : PySem.W.Frag} {mg mb : Str → Option Value} {fa a : Addr} {fd : FuncData} {x : Str} {sp : Sp} {s₁ : Shared} {vs : List Value} {ns : List Int}
    (KX : K.In s₁.heap) (hns : s₁.heap.Ns mainGlobals mg) (hb : s₁.heap.Ns builtinsNs mb) (hbb : ∀ x : Str, x ≠ "__name__" → mb x = bootBuiltins x) (hlim : s₁.heap.NoLimit) (hg : s₁.gens = #[])
    (ha : s₁.heap.get? a = some { cls := .type "list", data := .seq vs.toArray }) (hi : IntsAre vs ns) (hl : ns.length ≤ sizeLine) (hz : Z callerA)
    (F : ∀ base : Heap, K.In base → base.Ns mainGlobals mg → FnZ Z P w K mg base fa fd [x] sp) (hbind : ∀ (s : Shared) (u : Value), BindsTo s fd ⟨[u], []⟩ [(x, u)])
    (hsp : ∀ H : Hp, Only H → SqL K H a (ns.map V.int) → sp [.ref a] H (fun v _ => v = .bl true) E0) :
    codeAny (model P w) callerA (.call (.ref fa) ⟨[.ref a], []⟩) (fun r s' => r = .ok (.ret (.bool true)) ∧ OldK s₁.heap s'.heap ∧ s'.os = s₁.os ∧ AllBare s'.gens) s₁ := by
  have rv := vals_ints hi
  -- the abstract heap: the script alone, where it is none of the module's own objects
  obtain ⟨H, hO, hS, hok, hA, hK⟩ : ∃ H : Hp, Only H ∧ SqL K H a (ns.map V.int) ∧ HOk P w H s₁.heap ∧ (∀ b, H b ≠ none → b = a) ∧ (H a ≠ none → K.lookup a = none) := by
    cases hk : K.lookup a with
    | some o =>
      have e := (KX a o hk).symm.trans ha
      cases e
      exact ⟨fun _ => none, fun _ => .inl rfl, .inr ⟨_, vs.toArray, _, hk, rfl, rfl, rfl, by rw [List.size_toArray, hi.length]; exact hl, by simpa using rv⟩, fun b u z => (nomatch z), fun b z => absurd rfl z, fun z => absurd rfl z⟩
    | none =>
      refine ⟨upd (fun _ => none) a (.frz { cls := .type "list", data := .seq vs.toArray } (.lst (ns.map V.int))), fun b => ?_, .inl (.inr ⟨_, upd_same⟩), fun b u z => ?_, fun b z => ?_, fun _ => rfl⟩
      · by_cases q : b = a
        · subst q
          exact .inr ⟨_, _, upd_same⟩
        · exact .inl (upd_ne q)
      · by_cases q : b = a
        · subst q
          rw [upd_same] at z
          cases z
          exact ⟨ha, by rw [List.length_map]; exact hl, vs, _, rv, ha⟩
        · rw [upd_ne q] at z
          cases z
      · by_cases q : b = a
        · exact q
        · exact absurd (upd_ne q) z
  have only : ∀ {b : Addr} {o : Obj}, s₁.heap.get? b = some o → (b = a → o = { cls := .type "list", data := .seq vs.toArray }) := fun {b o} e q => by
    subst q
    exact Option.some.inj (e.symm.trans ha)
  have free : ∀ {b : Addr}, b ≠ a → H b = none := fun {b} q => by
    cases z : H b with
    | none => rfl
    | some u => exact absurd (hA b (by rw [z]; simp)) q
  have ns_ : ∀ {b : Addr} {m : Str → Option Value}, s₁.heap.Ns b m → (hidT s₁.heap H).Ns b m := fun {b m} ⟨o, es, ep, e, d, r⟩ => ⟨o, es, ep, hidT_get e (free fun q => by rw [only e q] at d; cases d), d, r⟩
  have kb : K.In (hidT s₁.heap H) := fun b o e => hidT_get (KX b o e) (by
    cases z : H b with
    | none => rfl
    | some u =>
      have q := hA b (by rw [z]; simp)
      subst q
      rw [hK (by rw [z]; simp)] at e
      cases e)
  have md : Mod K mg (hidT s₁.heap H) := ⟨kb, ns_ hns, ⟨mb, ns_ hb, hbb⟩, let ⟨mc, h1, h2⟩ := hlim; ⟨mc, ns_ h1, h2⟩⟩
  have e0 : Env0 P w K mg (hidT s₁.heap H) callerA [] s₁ H := ⟨rfl, md, fun _ _ e => of_hidT e, Nat.le_of_eq (hidT_size _ _), trivial, (fun _ q => nomatch q), hok, .of_eq hg⟩
  refine codeAny_mono ((F _ kb (ns_ hns)).run callerA [] s₁ H ⟨[.ref a], []⟩ [.ref a] [.ref a] _ hz e0 (hbind s₁ (.ref a)) (.cons rfl .nil) (hsp H hO hS)) fun r s' h => ?_
  match r, h with
  | .ok (.ret u), ⟨v, H', os, bare, un, hok', r', q⟩ =>
    have q' : v = .bl true := q
    subst q'
    obtain rfl : u = Value.bool true := r'
    refine ⟨rfl, OldK.of_keep fun b o e => ?_, os, bare⟩
    cases z : H b with
    | none => exact un.keep b o e z (fun y => nomatch y) (fun y => nomatch y)
    | some u =>
      rcases hO b with y | ⟨ob, xs, y⟩
      · rw [z] at y
        cases y
      · have e1 := (hok b _ y).1
        have e2 := (hok' b _ (un.frzs b ob _ y)).1
        rw [e] at e1
        cases e1
        exact e2
theorem walk_ofZ {Z : Around → Prop} {l : PySem.W.OpenLaw} {n : Nat} {q : Program} {loose : List Str} {XP : (Str → Option Value) → Heap → Prop} {YP : World → Heap → Prop} {d : DefRec} {K : Params → PySem.W.Frag} {sp : World → Sp} {x : Str}
    (hn : l.most = some n) (hn2 : n ≤ sizeLine) (hdf : d.params.defaults = []) (hz : Z callerA) (hY : ∀ (w : World) (h : Heap), YP w h → (K w.params).In h)
    (F : ∀ (w : World) (mg : Str → Option Value) (fa : Addr) (h : Heap), (K w.params).In h → h.Ns mainGlobals mg → mg d.name = some (.ref fa) →
      ∃ fd : FuncData, (∀ (s : Shared) (u : Value), BindsTo s fd ⟨[u], []⟩ [(x, u)]) ∧ ∀ base : Heap, (K w.params).In base → base.Ns mainGlobals mg → FnZ Z l.prog w (K w.params) mg base fa fd [x] (sp w))
    (hsp : ∀ (w : World) (H : Hp) (a : Addr) (ns : List Int), ns.length ≤ n → Only H → SqL (K w.params) H a (ns.map V.int) → sp w [.ref a] H (fun v _ => v = .bl true) E0) :
    PySem.W.WalkO q loose XP YP l.row.toRowW d [] (fun f vs => PySem.call f vs) := by
  refine Att.attach_call hn hdf fun w s₀ s₁ mg mb fa o pm cd doc a vs ns G Y ho hd hcd hmg hobj hints hlen hg => ?_
  have KX := hY w _ Y
  obtain ⟨fd, hb, hF⟩ := F w mg fa _ KX G.T.g hmg
  exact law_callZ KX G.T.g G.T.b G.T.builtins G.T.nolimit hg hobj hints (Nat.le_trans hlen hn2) hz hF hb fun H hO hS => hsp w H a ns hlen hO hS
end L2
set_option Elab.async false
set_option linter.all false
set_option maxRecDepth 100000
set_option maxHeartbeats 4000000
namespace Toy
open PySem L2
abbrev sIsName : Stmt := top 12
abbrev sIsWr : Stmt := top 13
def CAPS : Str := "ABCDEFGHIJKLMNOPQRSTUVWXYZ"
def SMALLS : Str := "abcdefghijklmnopqrstuvwxyz0123456789"
def capB (c : Nat) : Bool := decide (c ∈ CAPS.cps.toList)
def smB (c : Nat) : Bool := decide (c ∈ SMALLS.cps.toList)
/-- a name as written -/
def wrL : List Nat → Bool
  | [] => false
  | c :: r => decide (r.length ≤ 7) && (capB c && r.all smB)
def wrB (x : Str) : Bool := wrL x.cps.toList
def spWr : Sp := fun vs H Q _ => ∃ (x : Str), vs = [.str x] ∧ x.length ≤ sizeLine ∧ PyData.strOk x = true ∧ ∀ H', Same H H' → Q (.bl (wrB x)) H'
/-- the constants and built-in names of the text -/
structure Nk (mg : Str → Option Value) : Prop where
  caps : ∃ t, mg "CAPITALS" = some (.str CAPS t)
  smalls : ∃ t, mg "SMALL" = some (.str SMALLS t)
  lw : ∃ t, mg "LONGEST_WRITTEN" = some (.int 8 t)
  ln : ∃ t, mg "LONGEST_NAME" = some (.int 60 t)
  len : mg "len" = none
  all : mg "all" = none
theorem cutS_tail (x : Str) : (cutS x (some 1) none).cps.toList = x.cps.toList.drop 1 := by
  have e : x.cps.toList.length = x.length := by show x.cps.toList.length = x.cps.size; exact Array.length_toList
  unfold cutS
  rw [HT.sIx_none, show HT.sIx x.length 0 (some 1) = min 1 x.length from HT.sIx_nat x.length 0 1]
  show ((x.cps.toList.drop (min 1 x.length)).take (x.length - min 1 x.length)) = _
  by_cases h : 1 ≤ x.length
  · rw [Nat.min_eq_left h, List.take_of_length_le (by rw [List.length_drop, e]; exact Nat.le_refl _)]
  · have z : x.length = 0 := by omega
    rw [z] at e
    rw [List.length_eq_zero_iff.mp e]
    simp
theorem size_toList (x : Str) : x.cps.size = x.cps.toList.length := Array.length_toList.symm
theorem get_toList {x : Str} {i c : Nat} (h : x.cps[i]? = some c) : x.cps.toList[i]? = some c := by rw [Array.getElem?_toList]; exact h
section
variable {P : Program} {w : World} {K : PySem.W.Frag} {mg : Str → Option Value} {base : Heap}
theorem scIW : FnScope ["text", "sign"] ["text"] (defScope sIsWr) := ⟨rfl, rfl, rfl, by decide +kernel, rfl, by decide +kernel, by decide +kernel⟩
theorem ok_iswr {f : Addr} {fd : FuncData} (F : Fun K "is_written" "is_written" sIsWr f fd) (T : Nk mg) : FnOk P w K mg base CX0 1 f fd ["text"] spWr := by
  refine F.ok scIW (fun vs H Q E h => ?_) (fun cdv A outer s H vs Q E hr h => ?_)
  · obtain ⟨x, rfl, _⟩ := h
    rfl
  obtain ⟨x, rfl, hx, hok, q⟩ := h
  obtain ⟨t1, h1⟩ := T.caps
  obtain ⟨t2, h2⟩ := T.smalls
  obtain ⟨t3, h3⟩ := T.lw
  refine ⟨_, pss_cons (ps_if (PW.pt (pw_or (pt_cmpR op_eq (pv 0) pe_str (nomark _)) (pw_or1 (pt_cmpR op_gt (pe_callB call_len_str rfl T.len PySem.boot_len (pa_cons (pv 0) pa_nil)) (pe_glob (v := .int 8) rfl h3 ⟨_, rfl⟩) (nomark _))))) (pss_one (ps_ret pe_bl)) pss_nil)
    (pss_one (ps_ret (pe_and (pe_cmpR op_in_sign (pe_ix ix_str (pv 0) pe_int (fun _ _ => rfl)) (pe_glob (v := .str CAPS) rfl h1 ⟨_, rfl⟩) (by rfl))
      (pe_one (pe_callB (cr_all rfl) rfl T.all (by decide +kernel) (pa_cons (pe_lc (own := [("sign", 1)]) (g := gName 1) (tt := tYes) rfl scIW.nd (pi_str (pe_slice sl_str (pv 0) (po_some pe_int) po_none)) (blkOk_by (own := [("sign", 1)]) (N := ["text", "sign"]) (sc := defScope sIsWr) (by decide +kernel))
        (fun _ _ _ _ _ => pg_name (i := 1) scIW.nd rfl (.inl rfl)) (fun _ _ _ _ _ => pts_nil) (fun _ _ _ _ _ => pe_cmpR op_in_sign (pv 1) (pe_glob (v := .str SMALLS) rfl h2 ⟨_, rfl⟩) (by rfl))) pa_nil)))))), ?_⟩
  have eL : x.cps.toList.length = x.length := Array.length_toList
  refine ⟨_, rfl, rfl, _, rfl, ?_⟩
  refine ite2 (fun h => ?_) (fun h => ?_)
  · have e : x = "" := by
      have z := of_decide_eq_true h
      injection z
    subst e
    exact q H (Same.refl H)
  · have hne : x.cps.toList ≠ [] := fun z => h (by
      have : x = "" := by
        cases x with
        | mk c =>
          have : c = #[] := by simpa using z
          subst this
          rfl
      rw [this]
      exact decide_eq_true rfl)
    refine ⟨_, rfl, _, rfl, hx, _, _, rfl, rfl, _, rfl, ?_⟩
    cases hl : x.cps.toList with
    | nil => exact absurd hl hne
    | cons c r =>
      have hlen : x.length = r.length + 1 := by rw [← eL, hl]; rfl
      have hw : wrB x = (decide (r.length ≤ 7) && (capB c && r.all smB)) := by unfold wrB; rw [hl]; rfl
      refine ite2 (fun g => ?_) (fun g => ?_)
      · have g' : (x.length : Int) > 8 := of_decide_eq_true g
        have e : wrB x = false := by rw [hw, decide_eq_false (by omega)]; rfl
        rw [← e]
        exact q H (Same.refl H)
      · have g' : ¬ (x.length : Int) > 8 := of_decide_eq_false (Bool.eq_false_iff.mpr g)
        refine ⟨_, rfl, _, 0, c, rfl, rfl, hx, atI_nat (j := 0) (by rw [hl]; rfl), c, CAPS, rfl, rfl, _, rfl, ?_⟩
        refine ite2 (fun gc => ?_) (fun gc => ?_)
        · refine ⟨_, rfl, _, rfl, x, rfl, hx, _, rfl, fun D nD => ?_⟩
          have et : (cutS x (some 1) none).cps.toList = r := by rw [cutS_tail, hl]; rfl
          refine lc_it walk_str (fun i H2 => Same H H2 ∧ H2 D = some (.lst ((r.take i).map fun c => V.bl (smB c)))) ⟨same_new nD _, upd_same⟩ (fun _ _ _ _ => trivial) ?_ ?_
          · rintro i y H2 _ hi ⟨s2, hD⟩ ⟨rfl, d, hd, rfl⟩
            refine ⟨rfl, ?_⟩
            simp only [tYes, ↓reduceIte]
            have hd' : r[i]? = some d := by rw [← et]; exact get_toList hd
            have hi' : i < r.length := (List.getElem?_eq_some_iff.mp hd').1
            refine ⟨_, rfl, d, SMALLS, rfl, rfl, _, hD, (by rw [List.length_map, List.length_take]; exact Nat.lt_of_le_of_lt (Nat.min_le_right _ _) (by omega)), fun b o e => by rw [upd_ne (ne_of_none e nD)]; exact s2 _ _ e, ?_⟩
            rw [upd_same, List.take_add_one, hd']
            simp only [Option.toList, List.map_append, List.map_cons, List.map_nil]
            rfl
          · rintro H2 ⟨s2, hD⟩
            rw [size_toList, et, List.take_length] at hD
            refine ⟨D, r.map smB, rfl, SqL.of (by rw [hD, List.map_map]; rfl), ?_⟩
            have e : wrB x = (r.map smB).all id := by
              rw [hw, decide_eq_true (by omega), show capB c = true from gc, List.all_map]
              rfl
            rw [← e]
            exact q H2 s2
        · have e : wrB x = false := by
            rw [hw, show capB c = false from Bool.eq_false_iff.mpr gc]
            cases decide (r.length ≤ 7) <;> rfl
          rw [← e]
          exact q H (Same.refl H)
theorem one_ok {c : Nat} (h : c < 0x110000) : PyData.strOk ⟨#[c]⟩ = true := by
  unfold PyData.strOk
  simp [h]
theorem ok_code {x : Str} (h : PyData.strOk x = true) {c : Nat} (m : c ∈ x.cps.toList) : c < 0x110000 := by
  unfold PyData.strOk at h
  rw [← Array.all_toList] at h
  exact of_decide_eq_true (List.all_eq_true.mp h c m)
theorem strs_canLay : ∀ l : List Nat, (∀ c ∈ l, c < 0x110000) → PyData.canLayAll0 (l.map fun c => PyData.str ⟨#[c]⟩) = true
  | [], _ => by simp only [List.map_nil, PyData.canLayAll0]
  | c :: r, h => by simp only [List.map_cons, PyData.canLayAll0, PyData.canLay0, one_ok (h c List.mem_cons_self), strs_canLay r fun x hx => h x (List.mem_cons_of_mem _ hx), Bool.and_self]
theorem strs_depth : ∀ l : List Nat, PyData.depthAll (l.map fun c => PyData.str ⟨#[c]⟩) = 0
  | [] => by simp only [List.map_nil, PyData.depthAll]
  | c :: r => by simp only [List.map_cons, PyData.depthAll, PyData.depth, strs_depth r, Nat.max_self]
theorem strs_shaped (l : List Nat) (h : ∀ c ∈ l, c < 0x110000) : SeqAt.shaped (.list (l.map fun c => PyData.str ⟨#[c]⟩)) = true := by
  unfold SeqAt.shaped
  have e : (PyData.list (l.map fun c => PyData.str ⟨#[c]⟩)).canLay0 = true := by simp only [PyData.canLay0, strs_canLay l h]
  rw [e, Bool.true_and]
  refine decide_eq_true ?_
  simp only [PyData.depth, strs_depth]
  omega
theorem dp_strs {H : Hp} : ∀ l : List Nat, DpAll K H (l.map fun c => V.str ⟨#[c]⟩) (l.map fun c => PyData.str ⟨#[c]⟩)
  | [] => .nil
  | _ :: r => .cons (.str _) (dp_strs r)
theorem eqv_nil (l : List PyData) : PyData.eqv (.list l) (.list []) = l.isEmpty := by
  cases l <;> simp [PyData.eqv, PyData.eqvAll]
theorem filt_empty : ∀ r : List Nat, ((r.filter fun c => !smB c).map fun c => PyData.str ⟨#[c]⟩).isEmpty = r.all smB
  | [] => rfl
  | c :: r => by
    by_cases h : smB c = true
    · rw [List.filter_cons_of_neg (by rw [h]; decide), List.all_cons, h, Bool.true_and]
      exact filt_empty r
    · have e : smB c = false := Bool.eq_false_iff.mpr h
      rw [List.filter_cons_of_pos (by rw [e]; rfl), List.all_cons, e]
      rfl
end
end Toy
set_option Elab.async false
set_option linter.all false
set_option maxRecDepth 100000
set_option maxHeartbeats 4000000
namespace L2
open PySem PySem.Spec PyProof.Rows
/-! ### type(x), isinstance(x, T) of drawn data -/
def tyD : PyData → String
  | .none => "NoneType"
  | .bool _ => "bool"
  | .int _ => "int"
  | .str _ => "str"
  | .list _ => "list"
  | .tuple _ => "tuple"
  | .dict _ => "dict"
theorem tyD_ne : ∀ d : PyData, (Value.type (tyD d) == Value.type "builtin_function_or_method") = false
  | .none => by show (Value.type "NoneType" == _) = false; decide +kernel
  | .bool _ => by show (Value.type "bool" == _) = false; decide +kernel
  | .int _ => by show (Value.type "int" == _) = false; decide +kernel
  | .str _ => by show (Value.type "str" == _) = false; decide +kernel
  | .list _ => by show (Value.type "list" == _) = false; decide +kernel
  | .tuple _ => by show (Value.type "tuple" == _) = false; decide +kernel
  | .dict _ => by show (Value.type "dict" == _) = false; decide +kernel
section
variable {X : Cx} {pins : List (Addr × Obj)} {σ : St} {H : Hp} {s : Shared}
theorem Dq.typeIs (I : Inv X pins σ H s) : ∀ {d : PyData} {v : V} {u : Value}, Dq X.K H v d → RelV v u → s.TypeIs u (tyD d) ∧ (Value.type (tyD d) == Value.type "builtin_function_or_method") = false
  | _, _, _, .non, r => by cases r; exact ⟨rfl, tyD_ne _⟩
  | _, _, _, .bl b, r => by cases r; exact ⟨rfl, tyD_ne _⟩
  | _, _, _, .int i, r => by obtain ⟨t, rfl⟩ := r; exact ⟨typeIs_int s i t, tyD_ne _⟩
  | _, _, _, .str x, r => by obtain ⟨t, rfl⟩ := r; exact ⟨typeIs_str s x t, tyD_ne _⟩
  | _, _, _, .lst hs _, r => by
    cases r
    obtain ⟨its, rv, p, _⟩ := I.list hs
    exact ⟨p.isList.typeIs, tyD_ne _⟩
  | _, _, _, .tup hs _, r => by
    cases r
    obtain ⟨its, rv, p, _⟩ := I.tuple hs.seqT
    exact ⟨p.typeIs, tyD_ne _⟩
  | _, _, _, .dic h, r => by
    cases r
    obtain ⟨o, n, ho, hc, _⟩ := dic_at I h
    exact ⟨⟨o, ho, hc⟩, tyD_ne _⟩
def rTyD (K : PySem.W.Frag) : List V → Hp → VK → Prop := fun xs H Q => ∃ (x : V) (d : PyData), xs = [x] ∧ Dq K H x d ∧ Q (.ty (tyD d)) H
theorem call_tyD : CallR X (.type "type") (rTyD X.K) := by
  intro pins s σ H xs us Q I r h
  obtain ⟨x, d, rfl, D, q⟩ := h
  obtain ⟨u, rfl, rx⟩ := vals1 r
  obtain ⟨h1, h2⟩ := D.typeIs I rx
  exact call_type_of h1 h2 ⟨.ty (tyD d), H, I, rfl, q⟩
def rIsD (K : PySem.W.Frag) (T : String) : List V → Hp → VK → Prop := fun xs H Q => ∃ (x : V) (d : PyData) (b : Bool), xs = [x, .ty T] ∧ Dq K H x d ∧ PySem.W.kitOne K (.type (tyD d)) (.type T) = some b ∧ Q (.bl b) H
theorem call_isD {T : String} : CallR X (.builtin "isinstance") (rIsD X.K T) := by
  intro pins s σ H xs us Q I r h
  obtain ⟨x, d, b, rfl, D, e, q⟩ := h
  cases r with
  | cons rx rr =>
    cases rr with
    | cons rt rr =>
      cases rr
      cases rt
      have fin : ∀ tk, EP X pins σ Q (.bool b) { s with toks := tk } := fun tk => ⟨.bl b, H, I.kept (t' := tk) fun _ _ z => z, rfl, q⟩
      cases D with
      | non => cases rx; exact PySem.W.kia_one PySem.W.kitx_none I.kIn True.intro e (fun z => nomatch z) fin
      | bl y => cases rx; exact PySem.W.kia_one PySem.W.kitx_bool I.kIn True.intro e (fun z => nomatch z) fin
      | int i => obtain ⟨t, rfl⟩ := rx; exact PySem.W.kia_one PySem.W.kitx_int I.kIn True.intro e (fun z => nomatch z) fin
      | str y => obtain ⟨t, rfl⟩ := rx; exact PySem.W.kia_one PySem.W.kitx_str I.kIn True.intro e (fun z => nomatch z) fin
      | lst hs _ =>
        cases rx
        obtain ⟨its, rv, ⟨o, n, ho, hc, _, hd⟩, _⟩ := I.list hs
        exact PySem.W.kia_one PySem.W.kitx_list I.kIn ⟨o, ho, hc⟩ e (fun z => nomatch z) fin
      | tup hs _ =>
        cases rx
        obtain ⟨its, rv, ⟨o, ho, hc, n, hd⟩, _⟩ := I.tuple hs.seqT
        exact PySem.W.kia_one PySem.W.kitx_tuple I.kIn ⟨o, ho, hc⟩ e (fun z => nomatch z) fin
      | dic hs =>
        cases rx
        obtain ⟨o, n, ho, hc, _⟩ := dic_at I hs
        exact PySem.W.kia_one PySem.W.kitx_dict I.kIn ⟨o, ho, hc⟩ e (fun z => nomatch z) fin
end
theorem kit_tyD {K : PySem.W.Frag} {a b : String} {c : Bool} (h : ((PySem.W.kitMeta b) && (PySem.fastBuiltinMro a).isSome && decide ((PySem.fastBuiltinMro a).map (·.contains (.type b)) = some c)) = true) (n : (Value.type a == Value.type b) = c) : PySem.W.kitOne K (.type a) (.type b) = some c := by
  unfold PySem.W.kitOne
  cases c with
  | true => rw [if_pos n]
  | false =>
    rw [if_neg (by rw [n]; exact Bool.false_ne_true)]
    simp only [Bool.and_eq_true, decide_eq_true_eq] at h
    show (if PySem.W.kitMeta b = true then _ else _) = _
    rw [if_pos h.1.1]
    exact h.2
end L2
set_option Elab.async false
set_option linter.all false
set_option maxRecDepth 100000
set_option maxHeartbeats 4000000
namespace PySem.TypeEq
open Builtin
theorem slot_type_ne : Slot "type" (cmpInfo .NotEq).2.1 "object.__ne__" :=
  .of (owner := "object") (n := "__ne__") (by rw [typeLookup_type, builtinLookup_eq_fast]; kernel_rfl) (by decide +kernel) (by decide +kernel) (by decide +kernel)
    (by first | exact .inl (by decide +kernel) | exact .inr (by decide +kernel)) (by rw [isSubtype_type]; kernel_rfl)
theorem slot_type_ne_refl : Slot "type" (cmpInfo .NotEq).2.2 "object.__ne__" := slot_type_ne
section
variable {prog : Program} {w : World} {A : Around} {E : Value → Shared → Prop} {s : Shared} {Q : Value → Shared → Prop} {X Y : String}
theorem special_types (hX : ∀ s' : Shared, s'.TypeIs (.type X) "type") {Q : Option Value → Shared → Prop} (h : Q (some (if (Value.type X == Value.type Y) = true then .bool true else .notImplemented)) s) :
    wpAny (model prog w) A (callSpecialIfBound? (.type X) "__eq__" [.type Y]) Q E s := by
  refine wpAny_callSpecialIfBound?_slot (hX s) slot_type_eq ?_
  cases hk : (Value.type X == Value.type Y) with
  | true =>
    rw [hk, if_pos rfl] at h
    exact call_gives slot_type_eq (hX s) F.entry_object_eq (F.args_object_eq_2 _ _) (object_eq_same rfl hk) h
  | false =>
    rw [hk, if_neg Bool.false_ne_true] at h
    exact call_gives slot_type_eq (hX s) F.entry_object_eq (F.args_object_eq_2 _ _) (object_eq_other rfl hk) h
theorem meets_ne (hX : ∀ s' : Shared, s'.TypeIs (.type X) "type") : Meets (Builtin.«object.__ne__» ⟨[.type X, .type Y], []⟩) fun _ R s => R (.ok (.ret (if (Value.type X == Value.type Y) = true then .bool false else .notImplemented))) s :=
  .of_wp fun prog w A R s h => by
    unfold Builtin.«object.__ne__»
    refine wpAny_bind (wpAny_of_eq (a := ((Value.type X : Value), [Value.type Y])) (by first | rfl | (simp only [slotArgs]; rfl)) ?_)
    refine wpAny_bind (wpAny_cRoomFor_or (.inl rfl) ?_)
    refine wpAny_bind (special_types hX ?_)
    cases hk : (Value.type X == Value.type Y) with
    | true =>
      rw [hk, if_pos rfl] at h
      simp only [if_true]
      exact wpAny_bind (wpAny_truthy_bool (wpAny_pure ⟨_, rfl, h⟩))
    | false =>
      rw [hk, if_neg Bool.false_ne_true] at h
      simp only [Bool.false_eq_true, if_false]
      exact wpAny_pure ⟨_, rfl, h⟩
theorem ne_types (hX : ∀ s' : Shared, s'.TypeIs (.type X) "type") (hY : ∀ s' : Shared, s'.TypeIs (.type Y) "type") (h : Q (.bool (!(Value.type X == Value.type Y))) s) : wpAny (model prog w) A (compareOp .NotEq (.type X) (.type Y)) Q E s := by
  show wpAny _ A (richCompare .NotEq _ _) Q E s
  cases hk : (Value.type X == Value.type Y) with
  | true =>
    rw [hk] at h
    refine wpAny_richCompare_same (T := "type") (hX s) (hY s) slot_type_ne (call_meets slot_type_ne (hX s) F.cmpEntry_ne (F.cmpArgs_ne _ _) (meets_ne hX) ?_)
    rw [hk, if_pos rfl]
    exact ⟨(fun e => nomatch e), h⟩
  | false =>
    rw [hk] at h
    have hk' : (Value.type Y == Value.type X) = false := by
      rw [Bool.eq_false_iff] at hk ⊢
      intro e
      exact hk (by rw [beq_iff_eq] at e ⊢; exact e.symm)
    rcases hi : cmpInfo CmpOp.NotEq with ⟨sym, f, r⟩
    have h1 := slot_type_ne
    have h2 := slot_type_ne_refl
    rw [hi] at h1 h2
    simp only [richCompare, hi, (hX s).oneThing_none]
    refine wpAny_holding ?_
    refine wpAny_bind (wpAny_cRoomFor_or (.inl rfl) ?_)
    refine wpAny_bind (wpAny_typeOf (hX s) (wpAny_bind (wpAny_typeOf (hY s) ?_)))
    simp only [bne_self_eq_false, Bool.false_eq_true, if_false, pure_bind, Bool.not_false, if_true]
    refine wpAny_bind (m := tryCompare _ _ _) (wpAny_tryCompare_declines (hX s) h1 (call_meets slot_type_ne (hX s) F.cmpEntry_ne (F.cmpArgs_ne _ _) (meets_ne hX) ?_))
    rw [hk, if_neg Bool.false_ne_true]
    refine ⟨rfl, ?_⟩
    refine wpAny_bind (m := tryCompare _ _ _) (wpAny_tryCompare_declines (hY s) h2 (call_meets slot_type_ne (hY s) F.cmpEntry_ne (F.cmpArgs_ne _ _) (meets_ne hY) ?_))
    rw [hk', if_neg Bool.false_ne_true]
    refine ⟨rfl, ?_⟩
    refine wpAny_bind (wpAny_rule (wpAny_bind (wpAny_of_eq (a := false) (by rw [isSame_plain rfl, hk]) (wpAny_pure h))))
end
end PySem.TypeEq
namespace L2
open PySem PySem.Spec PyProof.Rows
theorem tyD_meta : ∀ (d : PyData) (s : Shared), s.TypeIs (.type (tyD d)) "type"
  | .none, s => TypeEq.meta_NoneType s
  | .bool _, s => TypeEq.meta_bool s
  | .int _, s => TypeEq.meta_int s
  | .str _, s => TypeEq.meta_str s
  | .list _, s => TypeEq.meta_list s
  | .tuple _, s => TypeEq.meta_tuple s
  | .dict _, s => TypeEq.meta_dict s
/-- type(x) != T -/
def rNeTy : R2 := fun x y H Q => ∃ (d : PyData) (T : String), x = .ty (tyD d) ∧ y = .ty T ∧ (∀ s : Shared, s.TypeIs (.type T) "type") ∧ Q (.bl (!decide (tyD d = T))) H
theorem op_neTy {X : Cx} : OpR X (compareOp .NotEq) rNeTy := by
  intro pins s σ H x y v u Q I rx ry h
  obtain ⟨d, T, rfl, rfl, hT, q⟩ := h
  cases rx
  cases ry
  refine TypeEq.ne_types (tyD_meta d) hT ⟨.bl _, H, I, rfl, ?_⟩
  have e : (Value.type (tyD d) == Value.type T) = decide (tyD d = T) := by
    by_cases h : tyD d = T
    · rw [h, decide_eq_true rfl]; exact beq_self_eq_true _
    · rw [decide_eq_false h, Bool.eq_false_iff]
      intro z
      rw [beq_iff_eq] at z
      injection z with z
      exact h z
  rw [e]
  exact q
end L2
set_option Elab.async false
set_option linter.all false
set_option maxRecDepth 100000
set_option maxHeartbeats 4000000
namespace Toy
open PySem L2
def namL : List Str → Bool
  | [] => false
  | p :: r => wrB p && r.all fun q => decide (V.str q = V.str "") || wrB q
def quo : Str := "'"
def nmB : PyData → Bool
  | .str x => decide (x.length ≤ 60) && namL (Txt.split x quo)
  | _ => false
/-! ### the texts of a thing -/
mutual
def txtB : PyData → Bool
  | .str x => PyData.strOk x && decide (x.length ≤ 2000)
  | .list ds => txtAll ds
  | .tuple ds => txtAll ds
  | _ => true
def txtAll : List PyData → Bool
  | [] => true
  | d :: ds => txtB d && txtAll ds
end
theorem app_cps (a b : Str) : (a ++ b).cps.toList = a.cps.toList ++ b.cps.toList := by
  show (a.cps ++ b.cps).toList = _
  exact Array.toList_append
theorem join_mem (y : Str) : ∀ (l : List Str) (p : Str), p ∈ l → (∀ c, c ∈ p.cps.toList → c ∈ (Str.join y l).cps.toList) ∧ p.length ≤ (Str.join y l).length
  | [], _, h => nomatch h
  | [x], p, h => by
    rw [List.mem_singleton.mp h]
    exact ⟨fun _ m => m, Nat.le_refl _⟩
  | x :: z :: r, p, h => by
    show (∀ c, c ∈ p.cps.toList → c ∈ (x ++ y ++ Str.join y (z :: r)).cps.toList) ∧ p.length ≤ (x ++ y ++ Str.join y (z :: r)).length
    rw [app_cps, app_cps, strLen_append, strLen_append]
    rcases List.mem_cons.mp h with rfl | h
    · exact ⟨fun c m => List.mem_append_left _ (List.mem_append_left _ m), by omega⟩
    · obtain ⟨a, b⟩ := join_mem y (z :: r) p h
      exact ⟨fun c m => List.mem_append_right _ (a c m), by omega⟩
theorem split_mem {x y p : Str} (h : p ∈ Txt.split x y) (ok : PyData.strOk x = true) : PyData.strOk p = true ∧ p.length ≤ x.length := by
  obtain ⟨a, b⟩ := join_mem y _ p h
  rw [StrLaws.join_split] at a b
  refine ⟨?_, b⟩
  unfold PyData.strOk
  rw [← Array.all_toList]
  exact List.all_eq_true.mpr fun c m => decide_eq_true (ok_code ok (a c m))
theorem split_ne (x y : Str) : Txt.split x y ≠ [] := by
  unfold Txt.split
  split
  · exact fun h => nomatch h
  · split
    · exact fun h => nomatch h
    · intro h
      have := length_partsBetween x (Builtin.Str.occurrences x y 0 x.length (x.length + 1)) y.length
      rw [h] at this
      exact absurd this (Nat.succ_ne_zero _).symm
theorem cutV_tail (xs : List V) : cutV xs (some 1) none = xs.drop 1 := by
  unfold cutV
  rw [HT.sIx_none, show HT.sIx xs.length 0 (some 1) = min 1 xs.length from HT.sIx_nat xs.length 0 1]
  by_cases h : 1 ≤ xs.length
  · rw [Nat.min_eq_left h, List.take_of_length_le (by rw [List.length_drop]; exact Nat.le_refl _)]
  · have z : xs.length = 0 := by omega
    rw [List.length_eq_zero_iff.mp z]
    simp
def spNm (K : PySem.W.Frag) : Sp := fun vs H Q _ => ∃ (v : V) (d : PyData), vs = [v] ∧ Dq K H v d ∧ txtB d = true ∧ ∀ H', Same H H' → Q (.bl (nmB d)) H'
structure Nt (mg : Str → Option Value) : Prop where
  type : mg "type" = none
  str : mg "str" = none
  isi : mg "isinstance" = none
structure Gv (P : Program) (w : World) (K : PySem.W.Frag) (mg : Str → Option Value) (base : Heap) (k : Nat) (x : Str) (f : Addr) (fd : FuncData) (ps : List Str) (sp : Sp) : Prop where
  ok : FnOk P w K mg base CX0 k f fd ps sp
  b : Binds K fd ps []
  k : PySem.W.keepIn K (.ref f) = true
  m : mg x = some (.ref f)
theorem nmB_not {d : PyData} (h : tyD d ≠ "str") : nmB d = false := by
  cases d <;> first | rfl | exact absurd rfl h
section
variable {P : Program} {w : World} {K : PySem.W.Frag} {mg : Str → Option Value} {base : Heap}
theorem scIN : FnScope ["value", "pieces", "piece"] ["value"] (defScope sIsName) := ⟨rfl, rfl, rfl, by decide +kernel, rfl, by decide +kernel, by decide +kernel⟩
theorem ok_isname {f g : Addr} {fd gd : FuncData} (F : Fun K "is_name" "is_name" sIsName f fd) (T : Nk mg) (U : Nt mg) (W : Gv P w K mg base 1 "is_written" g gd ["text"] spWr) : FnOk P w K mg base CX0 2 f fd ["value"] (spNm K) := by
  refine F.ok scIN (fun vs H Q E h => ?_) (fun cdv A outer s H vs Q E hr h => ?_)
  · obtain ⟨v, d, rfl, _⟩ := h
    rfl
  obtain ⟨v, d, rfl, hd, ht, q⟩ := h
  obtain ⟨t4, h4⟩ := T.ln
  refine ⟨_, pss_cons (ps_if (PW.pt (pw_or (pt_cmpR op_neTy (pe_callTy call_tyD rfl U.type (by decide +kernel) (pa_cons (pv 0) pa_nil)) (pe_bltn (v := .ty "str") rfl U.str (by decide +kernel) rfl (by decide) (by decide)) (nomark _))
      (pw_or1 (pt_cmpR op_gt (pe_callB call_len_str rfl T.len PySem.boot_len (pa_cons (pv 0) pa_nil)) (pe_glob (v := .int 60) rfl h4 ⟨_, rfl⟩) (nomark _))))) (pss_one (ps_ret pe_bl)) pss_nil)
    (pss_cons (ps_set (i := 1) scIN.nd rfl (.inl rfl) (pe_split (pv 0) pe_str))
    (pss_one (ps_ret (pe_and (pe_call W.ok hr rfl W.m W.k W.b .nil pass0 (pa_cons (pe_ix ix_list (pv 1) pe_int (fun _ _ => rfl)) pa_nil))
      (pe_one (pe_callB (cr_all rfl) rfl T.all (by decide +kernel) (pa_cons (pe_lc (own := [("piece", 2)]) (g := gName 2) (tt := tYes) rfl scIN.nd (pi_list (pe_slice sl_list (pv 1) (po_some pe_int) po_none)) (blkOk_by (own := [("piece", 2)]) (N := ["value", "pieces", "piece"]) (sc := defScope sIsName) (by decide +kernel))
        (fun _ _ _ _ _ => pg_name (i := 2) scIN.nd rfl (.inl rfl)) (fun _ _ _ _ _ => pts_nil) (fun _ _ _ _ _ => pe_or (pe_cmpR op_eq (pv 2) pe_str (nomark _)) (pe_one (pe_call W.ok hr rfl W.m W.k W.b .nil pass0 (pa_cons (pv 2) pa_nil))))) pa_nil))))))), ?_⟩
  refine ⟨_, rfl, _, d, rfl, hd, d, "str", rfl, rfl, TypeEq.meta_str, _, rfl, ?_⟩
  refine ite2 (fun h => ?_) (fun h => ?_)
  · have e : tyD d ≠ "str" := fun z => by
      rw [decide_eq_true z] at h
      cases h
    rw [← nmB_not e]
    exact q H (Same.refl H)
  · have e : tyD d = "str" := by
      by_cases z : tyD d = "str"
      · exact z
      · exact absurd (show (!decide (tyD d = "str")) = true by rw [decide_eq_false z]; rfl) h
    cases hd with
    | str x =>
      obtain ⟨hok, hx⟩ := Bool.and_eq_true_iff.mp ht
      have hx' : x.length ≤ 2000 := of_decide_eq_true hx
      have hz : ∀ {k : Nat}, k ≤ 2002 → k ≤ sizeLine := fun h => Nat.le_trans h (by decide)
      refine ⟨_, rfl, _, rfl, hz (by omega), _, _, rfl, rfl, _, rfl, ?_⟩
      refine ite2 (fun g => ?_) (fun g => ?_)
      · have g' : (x.length : Int) > 60 := of_decide_eq_true g
        have e : nmB (.str x) = false := by
          show (decide (x.length ≤ 60) && _) = false
          rw [decide_eq_false (by omega)]
          rfl
        rw [← e]
        exact q H (Same.refl H)
      · have g' : ¬ (x.length : Int) > 60 := of_decide_eq_false (Bool.eq_false_iff.mpr g)
        have en : nmB (.str x) = namL (Txt.split x quo) := by
          show (decide (x.length ≤ 60) && _) = _
          rw [decide_eq_true (by omega)]
          rfl
        rw [en] at q
        refine ⟨_, rfl, ⟨_, rfl⟩, x, quo, rfl, rfl, by decide, hz (by omega), fun L hL => ?_⟩
        have sL := same_new hL (.lst ((Txt.split x quo).map V.str))
        have aL : upd H L (.lst ((Txt.split x quo).map V.str)) L = some (.lst ((Txt.split x quo).map V.str)) := upd_same
        generalize upd H L (.lst ((Txt.split x quo).map V.str)) = H1 at sL aL ⊢
        have mem := fun (p : Str) (m : p ∈ Txt.split x quo) => split_mem m hok
        cases hl : Txt.split x quo with
        | nil => exact absurd hl (split_ne x quo)
        | cons p r =>
          rw [hl] at aL q mem
          obtain ⟨pk, pl⟩ := mem p List.mem_cons_self
          refine ⟨_, rfl, L, _, 0, _, rfl, rfl, SqL.of aL, atI_nat (j := 0) rfl, p, rfl, hz (by omega), pk, fun H2 s2 => ⟨_, rfl, ?_⟩⟩
          cases hw : wrB p with
          | false =>
            refine iteF ?_
            have e : namL (p :: r) = false := by show (wrB p && _) = false; rw [hw]; rfl
            rw [← e]
            exact q H2 (sL.trans s2)
          | true =>
            refine iteT ?_
            have e : namL (p :: r) = r.all fun q => decide (V.str q = V.str "") || wrB q := by show (wrB p && _) = _; rw [hw]; rfl
            rw [e] at q
            have aL2 := s2 _ _ aL
            refine ⟨_, rfl, _, rfl, L, _, rfl, SqL.of aL2, fun S hS => ?_⟩
            have sS := same_new hS (.lst (cutV ((p :: r).map V.str) (some 1) none))
            have aS : upd H2 S (.lst (cutV ((p :: r).map V.str) (some 1) none)) S = some (.lst (r.map V.str)) := by rw [upd_same, cutV_tail]; rfl
            generalize upd H2 S (.lst (cutV ((p :: r).map V.str) (some 1) none)) = H3 at sS aS ⊢
            refine ⟨S, rfl, ⟨_, SqL.of aS⟩, fun D nD => ?_⟩
            refine lc_it (walk_list (xs := r.map V.str)) (fun i H4 => Same H3 H4 ∧ H4 D = some (.lst ((r.take i).map fun q => V.bl (decide (V.str q = V.str "") || wrB q)))) ⟨same_new nD _, upd_same⟩ (fun i H4 _ z => SqL.of (z.1 _ _ aS)) ?_ ?_
            · rintro i y H4 _ hi ⟨s4, hD⟩ ⟨rfl, hy⟩
              refine ⟨rfl, ?_⟩
              simp only [tYes, ↓reduceIte]
              obtain ⟨u, hu, rfl⟩ : ∃ u, r[i]? = some u ∧ V.str u = y := by
                rw [List.getElem?_map] at hy
                cases z : r[i]? with
                | none => rw [z] at hy; cases hy
                | some u => rw [z] at hy; exact ⟨u, rfl, Option.some.inj hy⟩
              obtain ⟨uk, ul⟩ := mem u (List.mem_cons_of_mem _ (List.mem_of_getElem? hu))
              have hi' : i < r.length := (List.getElem?_eq_some_iff.mp hu).1
              have tk : ((r.take (i + 1)).map fun q => V.bl (decide (V.str q = V.str "") || wrB q)) = ((r.take i).map fun q => V.bl (decide (V.str q = V.str "") || wrB q)) ++ [V.bl (decide (V.str u = V.str "") || wrB u)] := by
                rw [List.take_add_one, hu]
                simp only [Option.toList, List.map_append, List.map_cons, List.map_nil]
              have len : ((r.take i).map fun q => V.bl (decide (V.str q = V.str "") || wrB q)).length < sizeLine := by
                rw [List.length_map, List.length_take]
                have hr2 : r.length ≤ x.length + 1 := by
                  have := PyProof.Rows.split_le x quo
                  rw [hl] at this
                  simp only [List.length_cons] at this
                  omega
                exact Nat.lt_of_le_of_lt (Nat.le_trans (Nat.min_le_right _ _) (Nat.le_trans hr2 (by omega : x.length + 1 ≤ 2001))) (by decide)
              refine ⟨_, rfl, rfl, _, rfl, ?_⟩
              refine ite2 (fun z => ?_) (fun z => ?_)
              · refine ⟨_, hD, len, fun b o e => by rw [upd_ne (ne_of_none e nD)]; exact s4 _ _ e, ?_⟩
                rw [upd_same, tk]
                have z' : decide (V.str u = V.str "") = true := z
                rw [z', Bool.true_or]
              · have z' : decide (V.str u = V.str "") = false := Bool.eq_false_iff.mpr z
                refine ⟨_, rfl, u, rfl, hz (by omega), uk, fun H5 s5 => ⟨_, s5 _ _ hD, len, fun b o e => by rw [upd_ne (ne_of_none e nD)]; exact s5 _ _ (s4 _ _ e), ?_⟩⟩
                rw [upd_same, tk, z', Bool.false_or]
            · rintro H4 ⟨s4, hD⟩
              rw [List.length_map, List.take_length] at hD
              refine ⟨D, r.map fun q => decide (V.str q = V.str "") || wrB q, rfl, SqL.of (by rw [hD, List.map_map]; rfl), ?_⟩
              have e : (r.map fun q => decide (V.str q = V.str "") || wrB q).all id = r.all fun q => decide (V.str q = V.str "") || wrB q := by rw [List.all_map]; rfl
              rw [e]
              exact q H4 (sL.trans (s2.trans (sS.trans s4)))
    | non => exact absurd (show ("NoneType" : String) = "str" from e) (by decide)
    | bl _ => exact absurd (show ("bool" : String) = "str" from e) (by decide)
    | int _ => exact absurd (show ("int" : String) = "str" from e) (by decide)
    | lst _ _ => exact absurd (show ("list" : String) = "str" from e) (by decide)
    | tup _ _ => exact absurd (show ("tuple" : String) = "str" from e) (by decide)
    | dic _ => exact absurd (show ("dict" : String) = "str" from e) (by decide)
end
end Toy
set_option Elab.async false
set_option linter.all false
set_option maxRecDepth 100000
set_option maxHeartbeats 4000000
namespace Toy
open PySem L2
theorem strD_canLay : ∀ l : List Str, (∀ p ∈ l, PyData.strOk p = true) → PyData.canLayAll0 (l.map PyData.str) = true
  | [], _ => by simp only [List.map_nil, PyData.canLayAll0]
  | c :: r, h => by simp only [List.map_cons, PyData.canLayAll0, PyData.canLay0, h c List.mem_cons_self, strD_canLay r fun x hx => h x (List.mem_cons_of_mem _ hx), Bool.and_self]
theorem strD_depth : ∀ l : List Str, PyData.depthAll (l.map PyData.str) = 0
  | [] => by simp only [List.map_nil, PyData.depthAll]
  | c :: r => by simp only [List.map_cons, PyData.depthAll, PyData.depth, strD_depth r, Nat.max_self]
theorem strD_shaped (l : List Str) (h : ∀ p ∈ l, PyData.strOk p = true) : SeqAt.shaped (.list (l.map PyData.str)) = true := by
  unfold SeqAt.shaped
  have e : (PyData.list (l.map PyData.str)).canLay0 = true := by simp only [PyData.canLay0, strD_canLay l h]
  rw [e, Bool.true_and]
  refine decide_eq_true ?_
  simp only [PyData.depth, strD_depth]
  omega
theorem dp_strD {K : PySem.W.Frag} {H : Hp} : ∀ l : List Str, DpAll K H (l.map V.str) (l.map PyData.str)
  | [] => .nil
  | _ :: r => .cons (.str _) (dp_strD r)
def okP (q : Str) : Bool := decide (V.str q = V.str "") || wrB q
theorem filtP_empty : ∀ r : List Str, ((r.filter fun c => !okP c).map PyData.str).isEmpty = r.all okP
  | [] => rfl
  | c :: r => by
    by_cases h : okP c = true
    · rw [List.filter_cons_of_neg (by rw [h]; decide), List.all_cons, h, Bool.true_and]
      exact filtP_empty r
    · have e : okP c = false := Bool.eq_false_iff.mpr h
      rw [List.filter_cons_of_pos (by rw [e]; rfl), List.all_cons, e]
      rfl
section
variable {P : Program} {w : World} {K : PySem.W.Frag} {mg : Str → Option Value} {base : Heap}
theorem kit_str : ∀ d : PyData, PySem.W.kitOne K (.type (tyD d)) (.type "str") = some (decide (tyD d = "str"))
  | .none => L2.kit_ty (show L2.kitB "NoneType" "str" = some (decide (("NoneType" : String) = "str")) by decide +kernel)
  | .bool _ => L2.kit_ty (show L2.kitB "bool" "str" = some (decide (("bool" : String) = "str")) by decide +kernel)
  | .int _ => L2.kit_ty (show L2.kitB "int" "str" = some (decide (("int" : String) = "str")) by decide +kernel)
  | .str _ => L2.kit_ty (show L2.kitB "str" "str" = some (decide (("str" : String) = "str")) by decide +kernel)
  | .list _ => L2.kit_ty (show L2.kitB "list" "str" = some (decide (("list" : String) = "str")) by decide +kernel)
  | .tuple _ => L2.kit_ty (show L2.kitB "tuple" "str" = some (decide (("tuple" : String) = "str")) by decide +kernel)
  | .dict _ => L2.kit_ty (show L2.kitB "dict" "str" = some (decide (("dict" : String) = "str")) by decide +kernel)
theorem kit_tup : ∀ d : PyData, PySem.W.kitOne K (.type (tyD d)) (.type "tuple") = some (decide (tyD d = "tuple"))
  | .none => L2.kit_ty (show L2.kitB "NoneType" "tuple" = some (decide (("NoneType" : String) = "tuple")) by decide +kernel)
  | .bool _ => L2.kit_ty (show L2.kitB "bool" "tuple" = some (decide (("bool" : String) = "tuple")) by decide +kernel)
  | .int _ => L2.kit_ty (show L2.kitB "int" "tuple" = some (decide (("int" : String) = "tuple")) by decide +kernel)
  | .str _ => L2.kit_ty (show L2.kitB "str" "tuple" = some (decide (("str" : String) = "tuple")) by decide +kernel)
  | .list _ => L2.kit_ty (show L2.kitB "list" "tuple" = some (decide (("list" : String) = "tuple")) by decide +kernel)
  | .tuple _ => L2.kit_ty (show L2.kitB "tuple" "tuple" = some (decide (("tuple" : String) = "tuple")) by decide +kernel)
  | .dict _ => L2.kit_ty (show L2.kitB "dict" "tuple" = some (decide (("dict" : String) = "tuple")) by decide +kernel)
end
end Toy
set_option Elab.async false
set_option linter.all false
set_option maxRecDepth 100000
set_option maxHeartbeats 4000000
namespace Toy
open PySem L2
abbrev sAmong : Stmt := top 17
def w3 (w : Str) : Bool := inV (.str w) [.str "thing", .str "none", .str "unit"]
def w2 (w : Str) : Bool := inV (.str w) [.str "pair", .str "either"]
def w1 (w : Str) : Bool := decide (V.str w = V.str "name")
/-- what should be kinds within a thing; none for what has no kind's form -/
def inner : PyData → Option (List PyData)
  | .tuple [.str w] => if w3 w = true then some [] else none
  | .tuple [.str w, d] => if (w1 w && nmB d) = true then some [] else none
  | .tuple [.str w, a, b] => if w2 w = true then some [a, b] else none
  | _ => none
/-- the data lies in G, the tuple in H -/
def KaRes (K : PySem.W.Frag) (G H : Hp) (u : V) : Option (List PyData) → Prop
  | none => u = .non
  | some ds => ∃ a xs, u = .ref a ∧ SqT K H a xs ∧ DqAll K G xs ds
def spKa (K : PySem.W.Frag) : Sp := fun vs H Q _ => ∃ (v : V) (d : PyData) (G : Hp), vs = [v] ∧ Same G H ∧ Dq K G v d ∧ txtB d = true ∧ ∀ u H', Same H H' → KaRes K G H' u (inner d) → Q u H'
structure Nu (mg : Str → Option Value) : Prop where
  tuple : mg "tuple" = none
theorem num_eq {n : Nat} {i : Int} (h : decide (V.int (n : Int) = V.int i) = true) : (n : Int) = i := by
  have z := of_decide_eq_true h
  injection z
theorem num_ne {n : Nat} {i : Int} (h : ¬ decide (V.int (n : Int) = V.int i) = true) : (n : Int) ≠ i := fun e => h (by rw [e]; exact decide_eq_true rfl)
theorem tup_of {d : PyData} (h : tyD d = "tuple") : ∃ ds, d = .tuple ds := by
  cases d with
  | tuple ds => exact ⟨ds, rfl⟩
  | none => exact absurd (show ("NoneType" : String) = "tuple" from h) (by decide)
  | bool _ => exact absurd (show ("bool" : String) = "tuple" from h) (by decide)
  | int _ => exact absurd (show ("int" : String) = "tuple" from h) (by decide)
  | str _ => exact absurd (show ("str" : String) = "tuple" from h) (by decide)
  | list _ => exact absurd (show ("list" : String) = "tuple" from h) (by decide)
  | dict _ => exact absurd (show ("dict" : String) = "tuple" from h) (by decide)
theorem str_of {d : PyData} (h : tyD d = "str") : ∃ x, d = .str x := by
  cases d with
  | str x => exact ⟨x, rfl⟩
  | none => exact absurd (show ("NoneType" : String) = "str" from h) (by decide)
  | bool _ => exact absurd (show ("bool" : String) = "str" from h) (by decide)
  | int _ => exact absurd (show ("int" : String) = "str" from h) (by decide)
  | tuple _ => exact absurd (show ("tuple" : String) = "str" from h) (by decide)
  | list _ => exact absurd (show ("list" : String) = "str" from h) (by decide)
  | dict _ => exact absurd (show ("dict" : String) = "str" from h) (by decide)
theorem inner_ty {d : PyData} (h : tyD d ≠ "tuple") : inner d = none := by
  cases d <;> first | rfl | exact absurd rfl h
theorem inner_hd {d : PyData} {r : List PyData} (h : tyD d ≠ "str") : inner (.tuple (d :: r)) = none := by
  cases d <;> first | rfl | exact absurd rfl h | (rcases r with _ | ⟨_, _ | ⟨_, _ | ⟨_, _⟩⟩⟩ <;> rfl)
theorem notT {s t : String} (h : (!decide (s = t)) = true) : s ≠ t := fun z => by rw [decide_eq_true z] at h; cases h
theorem isT {s t : String} (h : ¬ (!decide (s = t)) = true) : s = t := by
  by_cases z : s = t
  · exact z
  · exact absurd (show (!decide (s = t)) = true by rw [decide_eq_false z]; rfl) h
section
variable {P : Program} {w : World} {K : PySem.W.Frag} {mg : Str → Option Value} {base : Heap}
theorem dq_tuple {H : Hp} {v : V} {l : List PyData} (h : Dq K H v (.tuple l)) : ∃ a xs, v = .ref a ∧ SqT K H a xs ∧ DqAll K H xs l := by
  cases h with
  | tup h a => exact ⟨_, _, rfl, h.seqT, a⟩
theorem dq_tupleP {H : Hp} {v : V} {l : List PyData} (h : Dq K H v (.tuple l)) : ∃ a xs, v = .ref a ∧ SqP K H a xs ∧ DqAll K H xs l := by
  cases h with
  | tup h a => exact ⟨_, _, rfl, h, a⟩
theorem dq_str {H : Hp} {v : V} {x : Str} (h : Dq K H v (.str x)) : v = .str x := by
  cases h
  rfl
theorem dqAll_nil {H : Hp} {xs : List V} (h : DqAll K H xs []) : xs = [] := by
  cases h
  rfl
theorem dqAll_cons {H : Hp} {xs : List V} {d : PyData} {r : List PyData} (h : DqAll K H xs (d :: r)) : ∃ x rs, xs = x :: rs ∧ Dq K H x d ∧ DqAll K H rs r := by
  cases h with
  | cons a b => exact ⟨_, _, rfl, a, b⟩
theorem scKA : FnScope ["part", "word"] ["part"] (defScope sAmong) := ⟨rfl, rfl, rfl, by decide +kernel, rfl, by decide +kernel, by decide +kernel⟩
theorem ok_among {f g : Addr} {fd gd : FuncData} (F : Fun K "kinds_among" "kinds_among" sAmong f fd) (T : Nk mg) (U : Nt mg) (N : Nu mg) (G : Gv P w K mg base 2 "is_name" g gd ["value"] (spNm K)) : FnOk P w K mg base CX0 3 f fd ["part"] (spKa K) := by
  refine F.ok scKA (fun vs H Q E h => ?_) (fun cdv A outer s H vs Q E hr h => ?_)
  · obtain ⟨v, d, G, rfl, _⟩ := h
    rfl
  obtain ⟨v, d, G0, rfl, sG, hd, ht, q⟩ := h
  refine ⟨_, pss_cons (ps_if (PW.pt (pw_or (pt_cmpR op_neTy (pe_callTy call_tyD rfl U.type (by decide +kernel) (pa_cons (pv 0) pa_nil)) (pe_bltn (v := .ty "tuple") rfl N.tuple (by decide +kernel) rfl (by decide) (by decide)) (nomark _))
      (pw_or (pt_cmpR op_eq (pe_callB call_len_seq rfl T.len PySem.boot_len (pa_cons (pv 0) pa_nil)) pe_int (nomark _))
      (pw_or1 (pt_cmpR op_neTy (pe_callTy call_tyD rfl U.type (by decide +kernel) (pa_cons (pe_ix ix_tup (pv 0) pe_int (fun _ _ => rfl)) pa_nil)) (pe_bltn (v := .ty "str") rfl U.str (by decide +kernel) rfl (by decide) (by decide)) (nomark _)))))) (pss_one (ps_ret pe_non)) pss_nil)
    (pss_cons (ps_set (i := 1) scKA.nd rfl (.inl rfl) (pe_ix ix_tup (pv 0) pe_int (fun _ _ => rfl)))
    (pss_cons (ps_if (PW.pt (pw_and (pt_cmpR op_eq (pe_callB call_len_seq rfl T.len PySem.boot_len (pa_cons (pv 0) pa_nil)) pe_int (nomark _)) (pw_and1 (pt_cmpR op_in_seq (pv 1) (pe_tup (pa_cons pe_str (pa_cons pe_str (pa_cons pe_str pa_nil)))) (by rfl))))) (pss_one (ps_ret (pe_tup pa_nil))) pss_nil)
    (pss_cons (ps_if (PW.pt (pw_and (pt_cmpR op_eq (pe_callB call_len_seq rfl T.len PySem.boot_len (pa_cons (pv 0) pa_nil)) pe_int (nomark _)) (pw_and (pt_cmpR op_eq (pv 1) pe_str (nomark _)) (pw_and1 (pt_val (pe_call G.ok hr rfl G.m G.k G.b .nil pass0 (pa_cons (pe_ix ix_tup (pv 0) pe_int (fun _ _ => rfl)) pa_nil))))))) (pss_one (ps_ret (pe_tup pa_nil))) pss_nil)
    (pss_cons (ps_if (PW.pt (pw_and (pt_cmpR op_eq (pe_callB call_len_seq rfl T.len PySem.boot_len (pa_cons (pv 0) pa_nil)) pe_int (nomark _)) (pw_and1 (pt_cmpR op_in_seq (pv 1) (pe_tup (pa_cons pe_str (pa_cons pe_str pa_nil))) (by rfl))))) (pss_one (ps_ret (pe_slice sl_tup (pv 0) (po_some pe_int) po_none))) pss_nil)
    (pss_one (ps_ret pe_non)))))), ?_⟩
  have z3 : ∀ {k : Nat}, k ≤ 20 → k ≤ sizeLine := fun h => Nat.le_trans h (by decide)
  refine ⟨_, rfl, _, d, rfl, Dq.mono sG _ _ hd, d, "tuple", rfl, rfl, TypeEq.meta_tuple, _, rfl, ?_⟩
  refine ite2 (fun h => ?_) (fun h => ?_)
  · exact q .non H (Same.refl H) (by rw [inner_ty (notT h)]; rfl)
  obtain ⟨ds, rfl⟩ := tup_of (isT h)
  obtain ⟨a, xs, rfl, hxG, hA⟩ := dq_tuple hd
  have hx := sG.seqT hxG
  refine ⟨_, rfl, a, _, rfl, .inr hx, rfl, _, rfl, ?_⟩
  rcases ds with _ | ⟨d0, r⟩
  · obtain rfl := dqAll_nil hA
    exact iteT (q .non H (Same.refl H) rfl)
  · obtain ⟨x0, rs, rfl, h0, hR⟩ := dqAll_cons hA
    refine ite2 (fun g => absurd (num_eq g) (by simp only [List.length_cons]; omega)) (fun _ => ?_)
    refine ⟨_, rfl, a, _, 0, x0, rfl, rfl, hx, atI_nat (j := 0) rfl, x0, d0, rfl, Dq.mono sG _ _ h0, d0, "str", rfl, rfl, TypeEq.meta_str, _, rfl, ?_⟩
    refine ite2 (fun g => ?_) (fun g => ?_)
    · exact q .non H (Same.refl H) (by rw [inner_hd (notT g)]; rfl)
    obtain ⟨w, rfl⟩ := str_of (isT g)
    obtain rfl := dq_str h0
    refine ⟨_, rfl, a, _, 0, _, rfl, rfl, hx, atI_nat (j := 0) rfl, ?_⟩
    rcases r with _ | ⟨d1, _ | ⟨d2, _ | ⟨d3, r⟩⟩⟩
    · obtain rfl := dqAll_nil hR
      refine ⟨_, rfl, a, _, rfl, .inr hx, rfl, _, rfl, ?_⟩
      refine ite2 (fun _ => ?_) (fun g => absurd rfl (num_ne (n := 1) g))
      refine ⟨_, rfl, z3 (by show 3 ≤ 20; decide), fun t ht' => ⟨t, _, rfl, .inr (SqT.of upd_same), rfl, rfl, _, rfl, ?_⟩⟩
      have s1 := same_new ht' (.tup [.str "thing", .str "none", .str "unit"])
      refine ite2 (fun g => ?_) (fun g => ?_)
      · refine ⟨z3 (by show 0 ≤ 20; decide), fun p hp => ?_⟩
        exact q _ _ (s1.trans (same_new hp (.tup []))) (by show KaRes K _ _ _ (if w3 w = true then some [] else none); rw [if_pos (show w3 w = true from g)]; exact ⟨p, [], rfl, SqT.of upd_same, .nil⟩)
      · refine ⟨_, rfl, a, _, rfl, .inr (s1.seqT hx), rfl, _, rfl, ?_⟩
        refine ite2 (fun z => absurd (num_eq (n := 1) z) (by decide)) (fun _ => iteF ?_)
        refine ⟨_, rfl, a, _, rfl, .inr (s1.seqT hx), rfl, _, rfl, ?_⟩
        refine ite2 (fun z => absurd (num_eq (n := 1) z) (by decide)) (fun _ => iteF ?_)
        exact q .non _ s1 (by show KaRes K _ _ _ (if w3 w = true then some [] else none); rw [if_neg (show ¬ w3 w = true from g)]; rfl)
    · obtain ⟨x1, rs, rfl, h1, hR⟩ := dqAll_cons hR
      obtain rfl := dqAll_nil hR
      refine ⟨_, rfl, a, _, rfl, .inr hx, rfl, _, rfl, ?_⟩
      refine ite2 (fun z => absurd (num_eq (n := 2) z) (by decide)) (fun _ => iteF ?_)
      refine ⟨_, rfl, a, _, rfl, .inr hx, rfl, _, rfl, ?_⟩
      refine ite2 (fun _ => ?_) (fun g => absurd rfl (num_ne (n := 2) g))
      have rest : ∀ {H'}, Same H H' → (inner (.tuple [.str w, d1]) = none) → _ := fun {H'} s' e => q .non H' s' (by rw [e]; rfl)
      refine ⟨_, rfl, rfl, _, rfl, ?_⟩
      refine ite2 (fun g1 => ?_) (fun g1 => ?_)
      · refine ⟨_, rfl, a, _, 1, x1, rfl, rfl, hx, atI_nat (j := 1) rfl, x1, d1, rfl, Dq.mono sG _ _ h1, ?_, fun H' s' => ⟨_, rfl, ?_⟩⟩
        · have t2 : (txtB (.str w) && (txtB d1 && true)) = true := ht
          simp only [Bool.and_eq_true] at t2
          exact t2.2.1
        have e1 : w1 w = true := g1
        cases hn : nmB d1 with
        | true =>
          refine iteT ⟨z3 (by show 0 ≤ 20; decide), fun p hp => ?_⟩
          exact q _ _ (s'.trans (same_new hp (.tup []))) (by show KaRes K _ _ _ (if (w1 w && nmB d1) = true then some [] else none); rw [e1, hn]; exact ⟨p, [], rfl, SqT.of upd_same, .nil⟩)
        | false =>
          refine iteF ⟨_, rfl, a, _, rfl, .inr (s'.seqT hx), rfl, _, rfl, ?_⟩
          refine ite2 (fun z => absurd (num_eq (n := 2) z) (by decide)) (fun _ => iteF ?_)
          exact rest s' (by show (if (w1 w && nmB d1) = true then some [] else none) = none; rw [e1, hn]; rfl)
      · have e1 : w1 w = false := Bool.eq_false_iff.mpr g1
        refine iteF ⟨_, rfl, a, _, rfl, .inr hx, rfl, _, rfl, ?_⟩
        refine ite2 (fun z => absurd (num_eq (n := 2) z) (by decide)) (fun _ => iteF ?_)
        exact rest (Same.refl H) (by show (if (w1 w && nmB d1) = true then some [] else none) = none; rw [e1]; rfl)
    · obtain ⟨x1, rs, rfl, h1, hR1⟩ := dqAll_cons hR
      obtain ⟨x2, rs, rfl, h2, hR2⟩ := dqAll_cons hR1
      obtain rfl := dqAll_nil hR2
      refine ⟨_, rfl, a, _, rfl, .inr hx, rfl, _, rfl, ?_⟩
      refine ite2 (fun z => absurd (num_eq (n := 3) z) (by decide)) (fun _ => iteF ?_)
      refine ⟨_, rfl, a, _, rfl, .inr hx, rfl, _, rfl, ?_⟩
      refine ite2 (fun z => absurd (num_eq (n := 3) z) (by decide)) (fun _ => iteF ?_)
      refine ⟨_, rfl, a, _, rfl, .inr hx, rfl, _, rfl, ?_⟩
      refine ite2 (fun _ => ?_) (fun g => absurd rfl (num_ne (n := 3) g))
      refine ⟨_, rfl, z3 (by show 2 ≤ 20; decide), fun t ht' => ⟨t, _, rfl, .inr (SqT.of upd_same), rfl, rfl, _, rfl, ?_⟩⟩
      have s1 := same_new ht' (.tup [.str "pair", .str "either"])
      refine ite2 (fun g => ?_) (fun g => ?_)
      · refine ⟨_, rfl, _, rfl, a, _, rfl, s1.seqT hx, (fun z => absurd (show (1 : Nat) = 0 from z.1) (by decide)), fun p hp => ?_⟩
        have s2 := same_new hp (.tup (cutV [.str w, x1, x2] (some 1) none))
        exact q _ _ (s1.trans s2) (by show KaRes K _ _ _ (if w2 w = true then some [d1, d2] else none); rw [if_pos (show w2 w = true from g)]; exact ⟨p, [x1, x2], rfl, SqT.of (by rw [upd_same, cutV_tail]; rfl), hR⟩)
      · exact q .non _ s1 (by show KaRes K _ _ _ (if w2 w = true then some [d1, d2] else none); rw [if_neg (show ¬ w2 w = true from g)]; rfl)
    · obtain ⟨x1, rs, rfl, h1, hR1⟩ := dqAll_cons hR
      obtain ⟨x2, rs, rfl, h2, hR2⟩ := dqAll_cons hR1
      obtain ⟨x3, rs, rfl, h3, hR3⟩ := dqAll_cons hR2
      have ne : ∀ {i : Int}, i ≤ 3 → ¬ decide (V.int (((V.str w :: x1 :: x2 :: x3 :: rs).length : Nat) : Int) = V.int i) = true := fun {i} hi z => by
        have := num_eq z
        simp only [List.length_cons] at this
        omega
      refine ⟨_, rfl, a, _, rfl, .inr hx, rfl, _, rfl, ?_⟩
      refine ite2 (fun z => absurd z (ne (by decide))) (fun _ => iteF ?_)
      refine ⟨_, rfl, a, _, rfl, .inr hx, rfl, _, rfl, ?_⟩
      refine ite2 (fun z => absurd z (ne (by decide))) (fun _ => iteF ?_)
      refine ⟨_, rfl, a, _, rfl, .inr hx, rfl, _, rfl, ?_⟩
      refine ite2 (fun z => absurd z (ne (by decide))) (fun _ => iteF ?_)
      exact q .non H (Same.refl H) rfl
end
end Toy
set_option Elab.async false
set_option linter.all false
set_option maxRecDepth 100000
set_option maxHeartbeats 4000000
namespace Toy
open PySem L2
def headB : PyData → Nat → List Str → Bool
  | .tuple (.str w :: r), n, ws => decide (r.length + 1 = n) && inV (.str w) (ws.map V.str)
  | _, _, _ => false
def spHd (K : PySem.W.Frag) : Sp := fun vs H Q _ => ∃ (v : V) (d : PyData) (n : Nat) (t : Addr) (ws : List Str), vs = [v, .int n, .ref t] ∧ Dq K H v d ∧ 1 ≤ n ∧ SqT K H t (ws.map V.str) ∧ Q (.bl (headB d n ws)) H
theorem head_ty {d : PyData} {n : Nat} {ws : List Str} (h : tyD d ≠ "tuple") : headB d n ws = false := by
  cases d <;> first | rfl | exact absurd rfl h
theorem head_hd {d : PyData} {r : List PyData} {n : Nat} {ws : List Str} (h : tyD d ≠ "str") : headB (.tuple (d :: r)) n ws = false := by
  cases d <;> first | rfl | exact absurd rfl h
theorem strs_flat : ∀ ws : List Str, (ws.map V.str).all flatV = true
  | [] => rfl
  | _ :: r => by rw [List.map_cons, List.all_cons, strs_flat r] <;> rfl
section
variable {P : Program} {w : World} {K : PySem.W.Frag} {mg : Str → Option Value} {base : Heap}
end
end Toy
set_option Elab.async false
set_option linter.all false
set_option maxRecDepth 100000
set_option maxHeartbeats 2000000
namespace Toy
open PySem L2
abbrev L3 : List Str := ["thing", "none", "unit"]
abbrev L2w : List Str := ["pair", "either"]
abbrev L1 : List Str := ["name"]
def both (f : PyData → Bool) : PyData → Bool
  | .tuple [_, a, b] => f a && f b
  | _ => false
def named : PyData → Bool
  | .tuple [_, x] => nmB x
  | _ => false
/-- the form of a kind, so deep at most -/
def fB : Nat → PyData → Bool
  | 0, _ => false
  | n + 1, d => headB d 1 L3 || (if headB d 3 L2w = true then both (fB n) d else headB d 2 L1 && named d)
def spFm (K : PySem.W.Frag) (n : Nat) : Sp := fun vs H Q _ => ∃ (v : V) (d : PyData), vs = [v] ∧ Dq K H v d ∧ txtB d = true ∧ d.depth ≤ n ∧ ∀ H', Same H H' → Q (.bl (fB n d)) H'
theorem head_form {d : PyData} {n : Nat} {ws : List Str} (h : headB d n ws = true) : ∃ w r, d = .tuple (.str w :: r) ∧ r.length + 1 = n := by
  cases d with
  | tuple ds =>
    rcases ds with _ | ⟨d0, r⟩
    · cases h
    · cases d0 with
      | str w =>
        have z : (decide (r.length + 1 = n) && inV (.str w) (ws.map V.str)) = true := h
        simp only [Bool.and_eq_true, decide_eq_true_eq] at z
        exact ⟨w, r, rfl, z.1⟩
      | _ => cases h
  | _ => cases h
theorem head_zero {d : PyData} {n : Nat} {ws : List Str} (h : d.depth ≤ 0) : headB d n ws = false := by
  cases e : headB d n ws with
  | false => rfl
  | true =>
    obtain ⟨w, r, rfl, _⟩ := head_form e
    simp only [PyData.depth] at h
    omega
section
variable {P : Program} {w : World} {K : PySem.W.Frag} {mg : Str → Option Value} {base : Heap}
theorem depth_two {w : Str} {a b : PyData} {n : Nat} (h : (PyData.tuple [.str w, a, b]).depth ≤ n + 1) : a.depth ≤ n ∧ b.depth ≤ n := by
  simp only [PyData.depth, PyData.depthAll] at h
  omega
theorem none_leftF {f : Addr} {fd : FuncData} {k : Nat} : FnOk P w K mg base CX0 k f fd ["thing"] (fun _ _ _ _ => False) := ⟨fun _ _ _ _ h => h.elim, fun _ _ _ _ _ _ _ _ _ _ _ _ _ h => h.elim⟩
end
end Toy
set_option Elab.async false
set_option linter.all false
set_option maxRecDepth 100000
set_option maxHeartbeats 2000000
namespace Toy
open PySem L2
def nameOf : PyData → List Str
  | .tuple [_, .str x] => [x]
  | _ => []
def kids : PyData → Option (PyData × PyData)
  | .tuple [_, a, b] => some (a, b)
  | _ => none
def two (x y : Nat × Nat × List Str) : Nat × Nat × List Str := (max x.1 y.1 + 1, x.2.1 + y.2.1 + 1, x.2.2 ++ y.2.2)
/-- how deep, how many parts, the names -/
def ms : Nat → PyData → Nat × Nat × List Str
  | 0, _ => (1, 1, [])
  | n + 1, d => match kids d with
    | some (a, b) => two (ms n a) (ms n b)
    | none => (1, 1, nameOf d)
theorem ms_names : ∀ (n : Nat) (d : PyData), (ms n d).2.2.length ≤ (ms n d).2.1
  | 0, _ => Nat.zero_le _
  | n + 1, d => by
    show (match kids d with | some (a, b) => two (ms n a) (ms n b) | none => (1, 1, nameOf d)).2.2.length ≤ (match kids d with | some (a, b) => two (ms n a) (ms n b) | none => (1, 1, nameOf d)).2.1
    cases kids d with
    | none =>
      show (nameOf d).length ≤ 1
      unfold nameOf
      split
      · exact Nat.le_refl 1
      · exact Nat.zero_le _
    | some p =>
      obtain ⟨a, b⟩ := p
      show ((ms n a).2.2 ++ (ms n b).2.2).length ≤ (ms n a).2.1 + (ms n b).2.1 + 1
      rw [List.length_append]
      have h1 := ms_names n a
      have h2 := ms_names n b
      omega
def MsAt (H : Hp) (p : Addr) (m : Nat × Nat × List Str) : Prop := ∃ l, H p = some (.tup [.int (m.1 : Nat), .int (m.2.1 : Nat), .ref l]) ∧ H l = some (.lst (m.2.2.map V.str))
theorem MsAt.mono {H H' : Hp} {p : Addr} {m : Nat × Nat × List Str} (e : Same H H') (h : MsAt H p m) : MsAt H' p m := let ⟨l, a, b⟩ := h; ⟨l, e _ _ a, e _ _ b⟩
def spMs (K : PySem.W.Frag) (n : Nat) : Sp := fun vs H Q _ => ∃ (v : V) (d : PyData), vs = [v] ∧ Dq K H v d ∧ fB n d = true ∧ (ms n d).2.1 ≤ 1000000 ∧ ∀ p H', Same H H' → MsAt H' p (ms n d) → Q (.ref p) H'
theorem fB_ways {n : Nat} {d : PyData} (h : fB (n + 1) d = true) : (∃ w, d = .tuple [.str w] ∧ w2 w = false ∧ w1 w = false) ∨ (∃ w x, d = .tuple [.str w, .str x] ∧ w2 w = false ∧ w1 w = true) ∨ ∃ w a b, d = .tuple [.str w, a, b] ∧ w2 w = true ∧ fB n a = true ∧ fB n b = true := by
  have e : (headB d 1 L3 || (if headB d 3 L2w = true then both (fB n) d else headB d 2 L1 && named d)) = true := h
  have fl : ∀ w : Str, inV (.str w) ((["name"] : List Str).map V.str) = true → w = "name" := fun w z => by
    have z' : (eqV (.str "name") (.str w) || false) = true := z
    rw [Bool.or_false] at z'
    have z2 : (("name" : Str) == w) = true := z'
    exact (eq_of_beq z2).symm
  cases h1 : headB d 1 L3 with
  | true =>
    obtain ⟨w, r, rfl, hl⟩ := head_form h1
    obtain rfl : r = [] := List.length_eq_zero_iff.mp (by omega)
    have hw : inV (.str w) (L3.map V.str) = true := by
      have z : (decide (([] : List PyData).length + 1 = 1) && inV (.str w) (L3.map V.str)) = true := h1
      rw [Bool.and_eq_true] at z
      exact z.2
    have cs : w = "thing" ∨ w = "none" ∨ w = "unit" := by
      have z : ((("thing" : Str) == w) || ((("none" : Str) == w) || ((("unit" : Str) == w) || false))) = true := hw
      simp only [Bool.or_eq_true, Bool.or_false] at z
      rcases z with z | z | z
      · exact .inl (eq_of_beq z).symm
      · exact .inr (.inl (eq_of_beq z).symm)
      · exact .inr (.inr (eq_of_beq z).symm)
    refine .inl ⟨w, rfl, ?_⟩
    rcases cs with rfl | rfl | rfl <;> exact ⟨by decide +kernel, by decide +kernel⟩
  | false =>
    rw [h1, Bool.false_or] at e
    cases h3 : headB d 3 L2w with
    | true =>
      rw [h3, if_pos rfl] at e
      obtain ⟨w, r, rfl, hl⟩ := head_form h3
      rcases r with _ | ⟨a, _ | ⟨b, _ | ⟨c, r⟩⟩⟩
      · cases hl
      · cases hl
      · have e' : (fB n a && fB n b) = true := e
        rw [Bool.and_eq_true] at e'
        have hw : w2 w = true := by
          have z : (decide (([a, b] : List PyData).length + 1 = 3) && inV (.str w) (L2w.map V.str)) = true := h3
          rw [Bool.and_eq_true] at z
          exact z.2
        exact .inr (.inr ⟨w, a, b, rfl, hw, e'.1, e'.2⟩)
      · simp only [List.length_cons] at hl
        omega
    | false =>
      rw [h3, if_neg Bool.false_ne_true, Bool.and_eq_true] at e
      obtain ⟨w, r, rfl, hl⟩ := head_form e.1
      rcases r with _ | ⟨a, _ | ⟨b, r⟩⟩
      · cases hl
      · have hn : nmB a = true := e.2
        have hw : w = "name" := fl w (by
          have z : (decide (([a] : List PyData).length + 1 = 2) && inV (.str w) (L1.map V.str)) = true := e.1
          rw [Bool.and_eq_true] at z
          exact z.2)
        subst hw
        cases a with
        | str x => exact .inr (.inl ⟨_, x, rfl, by decide +kernel, by decide +kernel⟩)
        | _ => cases hn
      · simp only [List.length_cons] at hl
        omega
end Toy
set_option Elab.async false
set_option linter.all false
set_option maxRecDepth 100000
set_option maxHeartbeats 2000000
namespace Toy
open PySem L2
structure Nx (mg : Str → Option Value) : Prop where
  max : mg "max" = none
theorem max_int (i j : Nat) : (if ((j : Nat) : Int) > ((i : Nat) : Int) then ((j : Nat) : Int) else ((i : Nat) : Int)) = ((max i j : Nat) : Int) := by
  by_cases h : ((j : Nat) : Int) > ((i : Nat) : Int)
  · rw [if_pos h]; omega
  · rw [if_neg h]; omega
section
variable {P : Program} {w : World} {K : PySem.W.Frag} {mg : Str → Option Value} {base : Heap}
theorem none_leftM {f : Addr} {fd : FuncData} {k : Nat} : FnOk P w K mg base CX0 k f fd ["kind"] (fun _ _ _ _ => False) := ⟨fun _ _ _ _ h => h.elim, fun _ _ _ _ _ _ _ _ _ _ _ _ _ h => h.elim⟩
end
end Toy
set_option Elab.async false
set_option linter.all false
set_option maxRecDepth 100000
set_option maxHeartbeats 2000000
namespace Toy
open PySem L2
/-- a KIND: its form, so deep, so many parts -/
def kdB (n : Nat) (d : PyData) : Bool := fB n d && (decide ((ms n d).1 ≤ 30) && decide ((ms n d).2.1 ≤ 2000))
def spKd (K : PySem.W.Frag) (n : Nat) : Sp := fun vs H Q _ => ∃ (v : V) (d : PyData), vs = [v] ∧ Dq K H v d ∧ txtB d = true ∧ d.depth ≤ n ∧ (ms n d).2.1 ≤ 1000000 ∧ ∀ H', Same H H' → Q (.bl (kdB n d)) H'
section
variable {P : Program} {w : World} {K : PySem.W.Frag} {mg : Str → Option Value} {base : Heap}
end
end Toy
set_option Elab.async false
set_option linter.all false
set_option maxRecDepth 100000
set_option maxHeartbeats 1000000
namespace Toy
open PySem L2
abbrev sFound : Stmt := top 16
/-- the search: what waits (the last one first), what is found -/
def pf : Nat → List (PyData × Nat) → List (PyData × Nat) → Option (List (PyData × Nat))
  | _, [], fd => some fd
  | 0, _ :: _, _ => none
  | n + 1, (d, k) :: st, fd => match inner d with
    | none => none
    | some ds => if 30 < k then none else pf n ((ds.map fun x => (x, k + 1)).reverse ++ st) (fd ++ [(d, k)])
def Row (K : PySem.W.Frag) (G H : Hp) (v : V) (p : PyData × Nat) : Prop := ∃ t x, v = .ref t ∧ H t = some (.tup [x, .int (p.2 : Nat)]) ∧ Dq K G x p.1 ∧ txtB p.1 = true
def Rows (K : PySem.W.Frag) (G H : Hp) : List V → List (PyData × Nat) → Prop
  | [], [] => True
  | v :: vs, p :: ps => Row K G H v p ∧ Rows K G H vs ps
  | _, _ => False
theorem Row.keep {K : PySem.W.Frag} {G H H' : Hp} {v : V} {p : PyData × Nat} (e : ∀ b xs, H b = some (.tup xs) → H' b = some (.tup xs)) (h : Row K G H v p) : Row K G H' v p := let ⟨t, x, a, b, c⟩ := h; ⟨t, x, a, e _ _ b, c⟩
theorem Rows.keep {K : PySem.W.Frag} {G H H' : Hp} (e : ∀ b xs, H b = some (.tup xs) → H' b = some (.tup xs)) : ∀ {vs : List V} {ps : List (PyData × Nat)}, Rows K G H vs ps → Rows K G H' vs ps
  | [], [], _ => trivial
  | _ :: _, _ :: _, h => ⟨h.1.keep e, Rows.keep e h.2⟩
  | [], _ :: _, h => h.elim
  | _ :: _, [], h => h.elim
theorem Rows.len {K : PySem.W.Frag} {G H : Hp} : ∀ {vs : List V} {ps : List (PyData × Nat)}, Rows K G H vs ps → vs.length = ps.length
  | [], [], _ => rfl
  | _ :: _, _ :: _, h => congrArg Nat.succ h.2.len
  | [], _ :: _, h => h.elim
  | _ :: _, [], h => h.elim
theorem Rows.app {K : PySem.W.Frag} {G H : Hp} : ∀ {vs ws : List V} {ps qs : List (PyData × Nat)}, Rows K G H vs ps → Rows K G H ws qs → Rows K G H (vs ++ ws) (ps ++ qs)
  | [], _, [], _, _, s => s
  | _ :: _, _, _ :: _, _, h, s => ⟨h.1, h.2.app s⟩
  | [], _, _ :: _, _, h, _ => h.elim
  | _ :: _, _, [], _, h, _ => h.elim
theorem Rows.rev {K : PySem.W.Frag} {G H : Hp} : ∀ {vs : List V} {ps : List (PyData × Nat)}, Rows K G H vs ps → Rows K G H vs.reverse ps.reverse
  | [], [], _ => trivial
  | v :: vs, p :: ps, h => by
    rw [List.reverse_cons, List.reverse_cons]
    exact h.2.rev.app ⟨h.1, trivial⟩
  | [], _ :: _, h => h.elim
  | _ :: _, [], h => h.elim
/-- what the search tells -/
def PfRes (K : PySem.W.Frag) (G H : Hp) (u : V) : Option (List (PyData × Nat)) → Prop
  | none => u = .non
  | some fd => ∃ l fs, u = .ref l ∧ H l = some (.lst fs) ∧ Rows K G H fs fd
def spPf (K : PySem.W.Frag) : Sp := fun vs H Q _ => ∃ (v : V) (d : PyData) (G : Hp), vs = [v] ∧ Same G H ∧ Dq K G v d ∧ txtB d = true ∧ ∀ u H', Same H H' → PfRes K G H' u (pf 2000 [(d, 1)] []) → Q u H'
theorem inner_txt {d : PyData} {ds : List PyData} (h : inner d = some ds) (t : txtB d = true) : ∀ x ∈ ds, txtB x = true := by
  unfold inner at h
  split at h
  · split at h
    · cases h; exact fun _ m => nomatch m
    · cases h
  · split at h
    · cases h; exact fun _ m => nomatch m
    · cases h
  · split at h
    · cases h
      rename_i a b _
      have tt : (txtB (.str _) && (txtB a && (txtB b && true))) = true := t
      simp only [Bool.and_eq_true] at tt
      intro x m
      rcases List.mem_cons.mp m with rfl | m
      · exact tt.2.1
      · rw [List.mem_singleton.mp m]; exact tt.2.2.1
    · cases h
  · cases h
end Toy
set_option Elab.async false
set_option linter.all false
set_option maxRecDepth 100000
set_option maxHeartbeats 1000000
namespace Toy
open PySem L2
structure Np (mg : Str → Option Value) : Prop where
  deep : ∃ t, mg "DEEPEST" = some (.int 30 t)
  most : ∃ t, mg "MOST_PARTS" = some (.int 2000 t)
theorem keep_same {H H' : Hp} (e : Same H H') : ∀ b xs, H b = some (.tup xs) → H' b = some (.tup xs) := fun b xs h => e _ _ h
theorem keep_upd {H : Hp} {w : Addr} {ws zs : List V} (h : H w = some (.lst ws)) : ∀ b xs, H b = some (.tup xs) → upd H w (.lst zs) b = some (.tup xs) := fun b xs e => by
  rw [upd_ne (fun z => by rw [z, h] at e; cases e)]
  exact e
theorem rows_cons_inv {K : PySem.W.Frag} {G H : Hp} {vs : List V} {p : PyData × Nat} {ps : List (PyData × Nat)} (h : Rows K G H vs (p :: ps)) : ∃ v r, vs = v :: r ∧ Row K G H v p ∧ Rows K G H r ps := by
  cases vs with
  | nil => exact h.elim
  | cons v r => exact ⟨v, r, rfl, h.1, h.2⟩
theorem rows_nil_inv {K : PySem.W.Frag} {G H : Hp} {ps : List (PyData × Nat)} (h : Rows K G H [] ps) : ps = [] := by
  cases ps with
  | nil => rfl
  | cons p ps => exact h.elim
theorem dqAll_at {K : PySem.W.Frag} {H : Hp} {y : V} : ∀ (vs : List V) (ds : List PyData) (i : Nat), DqAll K H vs ds → vs[i]? = some y → ∃ e, ds[i]? = some e ∧ Dq K H y e
  | [], _, i, _, h => by simp at h
  | v :: vs, [], i, D, h => by cases D
  | v :: vs, d :: ds, 0, D, h => by
    cases D with
    | cons r t => cases h; exact ⟨_, rfl, r⟩
  | v :: vs, d :: ds, i + 1, D, h => by
    cases D with
    | cons r t => exact dqAll_at vs ds i t h
section
variable {P : Program} {w : World} {K : PySem.W.Frag} {mg : Str → Option Value} {base : Heap}
theorem scPf : FnScope ["value", "found", "waiting", "part", "depth", "inner", "one"] ["value"] (defScope sFound) := ⟨rfl, rfl, rfl, by decide +kernel, rfl, by decide +kernel, by decide +kernel⟩
theorem ok_found {f g : Addr} {fd gd : FuncData} (F : Fun K "parts_found" "parts_found" sFound f fd) (T : Nk mg) (N : Np mg) (KA : Gv P w K mg base 3 "kinds_among" g gd ["part"] (spKa K)) : FnOk P w K mg base CX0 4 f fd ["value"] (spPf K) := by
  refine F.ok scPf (fun vs H Q E h => ?_) (fun cdv A outer s H vs Q E hr h => ?_)
  · obtain ⟨v, d, G, rfl, _⟩ := h
    rfl
  obtain ⟨v, d, G, rfl, sG, hd, ht, q⟩ := h
  obtain ⟨t5, h5⟩ := N.deep
  obtain ⟨t6, h6⟩ := N.most
  refine ⟨_, pss_cons (ps_set (i := 1) scPf.nd rfl (.inl rfl) (pe_lst pa_nil))
    (pss_cons (ps_set (i := 2) scPf.nd rfl (.inl rfl) (pe_lst (pa_cons (pe_tup (pa_cons (pv 0) (pa_cons pe_int pa_nil))) pa_nil)))
    (pss_cons (ps_while PassesOwn.never (pt_truth (pv 2) (by intro _; rfl))
      (pss_cons (ps_asg (pe_bm0 PySem.F.plainAttrs_list PySem.F.slot_list_pop PySem.F.type_list_pop mt_pop (pv 2)) (pg_tup rfl (pgs_cons (pg_name (i := 3) scPf.nd rfl (.inl rfl)) (pgs_cons (pg_name (i := 4) scPf.nd rfl (.inr rfl)) pgs_nil))))
      (pss_cons (ps_set (i := 5) scPf.nd rfl (.inl rfl) (pe_call KA.ok hr rfl KA.m KA.k KA.b .nil pass0 (pa_cons (pv 3) pa_nil)))
      (pss_cons (ps_if (PW.pt (pw_or (pt_cmpR op_isN (pv 5) pe_non (nomark _)) (pw_or (pt_cmpR op_gt (pv 4) (pe_glob (v := .int 30) rfl h5 ⟨_, rfl⟩) (nomark _)) (pw_or1 (pt_cmpR op_eq (pe_callB call_len_seq rfl T.len PySem.boot_len (pa_cons (pv 1) pa_nil)) (pe_glob (v := .int 2000) rfl h6 ⟨_, rfl⟩) (nomark _)))))) (pss_one (ps_ret pe_non)) pss_nil)
      (pss_cons (ps_expr (pe_bm PySem.F.plainAttrs_list PySem.F.slot_list_append PySem.F.type_list_append mt_append (pv 1) (pa_cons (pe_tup (pa_cons (pv 3) (pa_cons (pv 4) pa_nil))) pa_nil)))
      (pss_one (ps_expr (pe_bm PySem.F.plainAttrs_list PySem.F.slot_list_extend PySem.F.type_list_extend mt_extend (pv 2) (pa_cons
        (pe_lc (own := [("one", 6)]) (g := gName 6) (tt := tYes) rfl scPf.nd (pi_tup (pv 5)) (blkOk_by (own := [("one", 6)]) (N := ["value", "found", "waiting", "part", "depth", "inner", "one"]) (sc := defScope sFound) (by decide +kernel))
          (fun _ _ _ _ _ => pg_name (i := 6) scPf.nd rfl (.inl rfl)) (fun _ _ _ _ _ => pts_nil) (fun _ _ _ _ _ => pe_tup (pa_cons (pv 6) (pa_cons (pe_op op_add (pv 4) pe_int) pa_nil)))) pa_nil)))))))))
    (pss_one (ps_ret (pv 1))))), ?_⟩
  have z3 : ∀ {k : Nat}, k ≤ 5000 → k ≤ sizeLine := fun h => Nat.le_trans h (by decide)
  refine ⟨z3 (by show 0 ≤ 5000; decide), fun fa hfa => ?_⟩
  have s1 := same_new hfa (.lst [])
  have f1 : upd H fa (.lst []) fa = some (.lst []) := upd_same
  generalize upd H fa (.lst []) = H1 at s1 f1 ⊢
  refine ⟨_, rfl, z3 (by show 2 ≤ 5000; decide), fun t0 ht0 => ⟨z3 (by show 1 ≤ 5000; decide), fun wa hwa => ?_⟩⟩
  have s2 := same_new ht0 (.tup [v, .int 1])
  have s3 := same_new hwa (.lst [.ref t0])
  have f3 := s3 _ _ (s2 _ _ f1)
  have w3 : upd (upd H1 t0 (.tup [v, .int 1])) wa (.lst [.ref t0]) wa = some (.lst [.ref t0]) := upd_same
  have r0 : upd (upd H1 t0 (.tup [v, .int 1])) wa (.lst [.ref t0]) t0 = some (.tup [v, .int 1]) := s3 _ _ upd_same
  have S3 := s1.trans (s2.trans s3)
  have hwaH : H wa = none := (s1.trans s2).free hwa
  generalize upd (upd H1 t0 (.tup [v, .int 1])) wa (.lst [.ref t0]) = H3 at s3 f3 w3 r0 S3 ⊢
  have nfw : fa ≠ wa := fun z => by rw [z] at f1; rw [s2 _ _ f1] at hwa; cases hwa
  dsimp only [gName, tSeq]
  refine while_by (fun σ H' => ∃ n st fnd ws fs c3 c4 c5, σ = [some v, some (.ref fa), some (.ref wa), c3, c4, c5, none] ∧ Same H H' ∧ H' fa = some (.lst fs) ∧ H' wa = some (.lst ws) ∧ Rows K G H' ws.reverse st ∧ Rows K G H' fs fnd ∧
      n + fnd.length = 2000 ∧ st.length ≤ 2 * fnd.length + 1 ∧ pf n st fnd = pf 2000 [(d, 1)] []) (fun _ H' => match H' fa with | some (.lst fs) => 2001 - fs.length | _ => 0)
    ⟨2000, [(d, 1)], [], [.ref t0], [], none, none, none, rfl, S3, f3, w3, ⟨⟨t0, v, rfl, r0, hd, ht⟩, trivial⟩, trivial, rfl, (by show 1 ≤ 1; exact Nat.le_refl 1), rfl⟩ ?_ ?_
  · rintro σ H' ⟨n, st, fnd, ws, fs, c3, c4, c5, rfl, sH, hf, hw, rw', rf, hn, hst, hpf⟩
    have sG' : Same G H' := sG.trans sH
    rcases List.eq_nil_or_concat ws with rfl | ⟨w', y, rfl⟩
    · -- the end
      refine ⟨_, rfl, false, .inl ⟨[], SqL.of hw, rfl⟩, iteF ?_⟩
      have e : st = [] := rows_nil_inv rw'
      subst e
      have e2 : pf n [] fnd = some fnd := by cases n <;> rfl
      rw [e2] at hpf
      exact ⟨_, rfl, q _ H' sH (by rw [← hpf]; exact ⟨fa, fs, rfl, hf, rf⟩)⟩
    · rw [List.concat_eq_append] at hw rw'
      rw [List.reverse_append, List.reverse_singleton, List.singleton_append] at rw'
      rcases st with _ | ⟨⟨d1, k⟩, st'⟩
      · exact rw'.elim
      obtain ⟨⟨t, x, rfl, hT, hD, hX⟩, rw2⟩ := rw'
      refine ⟨_, rfl, true, .inl ⟨_, SqL.of hw, by simp⟩, iteT ?_⟩
      refine ⟨_, rfl, .inl ⟨rfl, _, SqL.of hw⟩, wa, _, .ref t, rfl, rfl, hw, by simp, ?_⟩
      have dl : (w' ++ [V.ref t]).dropLast = w' := by simp
      rw [dl]
      have k1 := keep_upd (zs := w') hw
      have sH1 : Same H (upd H' wa (.lst w')) := fun b o e => by rw [upd_ne (ne_of_none e hwaH)]; exact sH _ _ e
      have hT1 := k1 _ _ hT
      have hf1 : upd H' wa (.lst w') fa = some (.lst fs) := by rw [upd_ne nfw]; exact hf
      have hw1 : upd H' wa (.lst w') wa = some (.lst w') := upd_same
      have rw3 := rw2.keep k1
      have rf1 := rf.keep k1
      generalize upd H' wa (.lst w') = H4 at sH1 hT1 hf1 hw1 rw3 rf1 ⊢
      refine ⟨t, _, rfl, SqT.of hT1, rfl, _, _, rfl, _, _, rfl, rfl, ?_⟩
      refine ⟨_, rfl, x, d1, G, rfl, sG.trans sH1, hD, hX, fun u H5 s5 res => ?_⟩
      have sH5 := sH1.trans s5
      have hf5 := s5 _ _ hf1
      have hw5 := s5 _ _ hw1
      have rw5 := rw3.keep (keep_same s5)
      have rf5 := rf1.keep (keep_same s5)
      have fl := rf5.len
      have out : pf n ((d1, k) :: st') fnd = none → _ := fun e => q .non H5 sH5 (by rw [← hpf, e]; rfl)
      refine ⟨_, rfl, rfl, _, rfl, ?_⟩
      cases hi : inner d1 with
      | none =>
        rw [hi] at res
        obtain rfl : u = .non := res
        exact iteT (out (by cases n with
          | zero => rfl
          | succ m => show (match inner d1 with | none => none | some ds => _) = none; rw [hi]))
      | some ds =>
        rw [hi] at res
        obtain ⟨a, xs, rfl, hx, hA⟩ := res
        refine iteF ⟨_, rfl, _, _, rfl, rfl, _, rfl, ?_⟩
        refine ite2 (fun g => ?_) (fun g => ?_)
        · have g' : (k : Int) > 30 := of_decide_eq_true g
          exact out (by cases n with
            | zero => rfl
            | succ m => show (match inner d1 with | none => none | some ds => _) = none; rw [hi]; exact if_pos (by omega))
        · have g' : ¬ (k : Int) > 30 := of_decide_eq_false (Bool.eq_false_iff.mpr g)
          refine ⟨_, rfl, fa, _, rfl, .inl (SqL.of hf5), rfl, _, rfl, ?_⟩
          refine ite2 (fun z => ?_) (fun z => ?_)
          · have z' := num_eq z
            obtain rfl : n = 0 := by omega
            exact out rfl
          · have z' := num_ne z
            obtain ⟨m, rfl⟩ : ∃ m, n = m + 1 := ⟨n - 1, by omega⟩
            have ep : pf (m + 1) ((d1, k) :: st') fnd = pf m ((ds.map fun x => (x, k + 1)).reverse ++ st') (fnd ++ [(d1, k)]) := by
              show (match inner d1 with | none => none | some ds => if 30 < k then none else pf m ((ds.map fun x => (x, k + 1)).reverse ++ st') (fnd ++ [(d1, k)])) = _
              rw [hi]
              exact if_neg (by omega)
            have hds : ds.length ≤ 2 := by
              unfold inner at hi
              split at hi
              · split at hi
                · cases hi; exact Nat.zero_le _
                · cases hi
              · split at hi
                · cases hi; exact Nat.zero_le _
                · cases hi
              · split at hi
                · cases hi; exact Nat.le_refl 2
                · cases hi
              · cases hi
            refine ⟨_, rfl, .inl ⟨rfl, _, SqL.of hf5⟩, _, rfl, _, rfl, z3 (by show 2 ≤ 5000; decide), fun t2 ht2 => ?_⟩
            have s6 := same_new ht2 (.tup [x, .int (k : Nat)])
            refine ⟨fa, fs, .ref t2, rfl, rfl, s6 _ _ hf5, Nat.lt_of_le_of_lt (by omega : fs.length ≤ 2000) (by decide), ?_⟩
            have s7 : Same H (upd (upd H5 t2 (.tup [x, .int (k : Nat)])) fa (.lst (fs ++ [.ref t2]))) := fun b o e => by rw [upd_ne (ne_of_none e hfa)]; exact s6 _ _ (sH5 _ _ e)
            have k7 : ∀ b zs, H5 b = some (.tup zs) → upd (upd H5 t2 (.tup [x, .int (k : Nat)])) fa (.lst (fs ++ [.ref t2])) b = some (.tup zs) := fun b zs e => keep_upd (s6 _ _ hf5) _ _ (s6 _ _ e)
            have hx7 : SqT K (upd (upd H5 t2 (.tup [x, .int (k : Nat)])) fa (.lst (fs ++ [.ref t2]))) a xs := by
              rcases hx with (h | ⟨o, h⟩) | h
              · exact .inl (.inl (k7 _ _ h))
              · exact .inl (.inr ⟨o, by rw [upd_ne (fun z => by rw [z, hf5] at h; cases h)]; exact s6 _ _ h⟩)
              · exact .inr h
            have hw7 : upd (upd H5 t2 (.tup [x, .int (k : Nat)])) fa (.lst (fs ++ [.ref t2])) wa = some (.lst w') := by rw [upd_ne (Ne.symm nfw)]; exact s6 _ _ hw5
            have hf7 : upd (upd H5 t2 (.tup [x, .int (k : Nat)])) fa (.lst (fs ++ [.ref t2])) fa = some (.lst (fs ++ [.ref t2])) := upd_same
            have ht7 : upd (upd H5 t2 (.tup [x, .int (k : Nat)])) fa (.lst (fs ++ [.ref t2])) t2 = some (.tup [x, .int (k : Nat)]) := keep_upd (s6 _ _ hf5) _ _ upd_same
            have rw7 := rw5.keep k7
            have one7 : Rows K G (upd (upd H5 t2 (.tup [x, .int (k : Nat)])) fa (.lst (fs ++ [.ref t2]))) [.ref t2] [(d1, k)] := ⟨⟨t2, x, rfl, ht7, hD, hX⟩, trivial⟩
            have rf7 := (rf5.keep k7).app one7
            clear one7
            generalize upd (upd H5 t2 (.tup [x, .int (k : Nat)])) fa (.lst (fs ++ [.ref t2])) = H7 at s7 k7 hx7 hw7 hf7 ht7 rw7 rf7 ⊢
            have txs := inner_txt hi hX
            refine ⟨_, rfl, .inl ⟨rfl, _, SqL.of hw7⟩, _, rfl, a, rfl, ⟨_, hx7⟩, fun D nD => ?_⟩
            refine lc_it (walk_tup (xs := xs)) (fun i H8 => Same H7 H8 ∧ ∃ zs, H8 D = some (.lst zs) ∧ zs.length = i ∧ Rows K G H8 zs ((ds.take i).map fun x => (x, k + 1))) ⟨same_new nD _, [], upd_same, rfl, trivial⟩ (fun i H8 _ z => z.1.seqT hx7) ?_ ?_
            · rintro i y H8 _ hii ⟨s8, zs, hzD, hzl, hzr⟩ ⟨rfl, hy⟩
              refine ⟨rfl, ?_⟩
              simp only [tYes, ↓reduceIte]
              obtain ⟨e, he, hde⟩ := dqAll_at _ _ _ hA hy
              refine ⟨_, rfl, _, rfl, _, _, rfl, rfl, z3 (by show 2 ≤ 5000; decide), fun t3 ht3 => ?_⟩
              have s9 := same_new ht3 (.tup [y, .int ((k : Nat) + 1 : Int)])
              have hz9 := s9 _ _ hzD
              have hil : i < ds.length := (List.getElem?_eq_some_iff.mp he).1
              refine ⟨zs, hz9, Nat.lt_of_le_of_lt (by omega : zs.length ≤ 2) (by decide), fun b o q => by rw [upd_ne (ne_of_none q nD)]; exact s9 _ _ (s8 _ _ q), zs ++ [.ref t3], upd_same, by rw [List.length_append, hzl]; rfl, ?_⟩
              rw [List.take_add_one, he, List.map_append]
              refine Rows.app ((hzr.keep (keep_same s9)).keep (keep_upd hz9)) ⟨⟨t3, y, rfl, keep_upd hz9 _ _ upd_same, hde, txs e (List.mem_of_getElem? he)⟩, trivial⟩
            · rintro H8 ⟨s8, zs, hzD, hzl, hzr⟩
              have el : xs.length = ds.length := hA.len
              rw [el, List.take_length] at hzr
              have hzlen := hzr.len
              rw [List.length_map] at hzlen
              have hw8 := s8 _ _ hw7
              have hf8 := s8 _ _ hf7
              have wl : w'.length = st'.length := by have := rw7.len; rwa [List.length_reverse] at this
              have hst' : st'.length + 1 ≤ 2 * fnd.length + 1 := hst
              refine ⟨wa, D, w', zs, rfl, rfl, hw8, hzD, z3 (by omega), ?_⟩
              have nwf : fa ≠ wa := nfw
              refine ⟨⟨m, (ds.map fun x => (x, k + 1)).reverse ++ st', fnd ++ [(d1, k)], w' ++ zs, fs ++ [.ref t2], _, _, _, rfl, fun b o e => by rw [upd_ne (ne_of_none e hwaH)]; exact s8 _ _ (s7 _ _ e), by rw [upd_ne nwf]; exact hf8, upd_same, ?_, ?_, ?_, ?_, by rw [← ep]; exact hpf⟩, ?_⟩
              · rw [List.reverse_append]
                exact (hzr.rev.app (rw7.keep (keep_same s8))).keep (keep_upd hw8)
              · exact (rf7.keep (keep_same s8)).keep (keep_upd hw8)
              · rw [List.length_append, List.length_singleton]; omega
              · rw [List.length_append, List.length_reverse, List.length_map, List.length_append, List.length_singleton]; omega
              · show (match upd H8 wa (.lst (w' ++ zs)) fa with | some (.lst fs) => 2001 - fs.length | _ => 0) < (match H' fa with | some (.lst fs) => 2001 - fs.length | _ => 0)
                rw [upd_ne nwf, hf8, hf]
                show 2001 - (fs ++ [V.ref t2]).length < 2001 - fs.length
                rw [List.length_append, List.length_singleton]
                omega
  · intro σ H' Q1 Q2 hq hc
    obtain ⟨x, ex, k, tr, q1⟩ := hc
    exact ⟨x, ex, k, tr, hq _ _ q1⟩
end
end Toy
set_option Elab.async false
set_option linter.all false
set_option maxRecDepth 100000
set_option maxHeartbeats 1000000
namespace Toy
open PySem L2
/-! ### what the search tells -/
/-- the parts with their depths, in the order in which they are found -/
def prt : Nat → PyData → Nat → List (PyData × Nat)
  | 0, d, k => [(d, k)]
  | n + 1, d, k => (d, k) :: (match kids d with | some (a, b) => prt n b (k + 1) ++ prt n a (k + 1) | none => [])
theorem ms_pos : ∀ (n : Nat) (d : PyData), 1 ≤ (ms n d).1 ∧ 1 ≤ (ms n d).2.1
  | 0, _ => ⟨Nat.le_refl 1, Nat.le_refl 1⟩
  | n + 1, d => by
    show 1 ≤ (match kids d with | some (a, b) => two (ms n a) (ms n b) | none => (1, 1, nameOf d)).1 ∧ 1 ≤ (match kids d with | some (a, b) => two (ms n a) (ms n b) | none => (1, 1, nameOf d)).2.1
    cases kids d with
    | none => exact ⟨Nat.le_refl 1, Nat.le_refl 1⟩
    | some p => obtain ⟨a, b⟩ := p; exact ⟨Nat.le_add_left 1 _, Nat.le_add_left 1 _⟩
theorem inv_name (w : Str) : inV (.str w) ((["name"] : List Str).map V.str) = w1 w := by
  show ((("name" : Str) == w) || false) = decide (V.str w = V.str "name")
  rw [Bool.or_false]
  by_cases h : ("name" : Str) = w
  · subst h; simp
  · rw [decide_eq_false (fun z => h (by injection z with z; exact z.symm))]
    exact Bool.eq_false_iff.mpr fun z => h (eq_of_beq z)
theorem fB_one (n : Nat) (w : Str) : fB (n + 1) (.tuple [.str w]) = w3 w := by
  show (w3 w || false) = w3 w
  exact Bool.or_false _
theorem fB_nam (n : Nat) (w : Str) (d : PyData) : fB (n + 1) (.tuple [.str w, d]) = (w1 w && nmB d) := by
  show (inV (.str w) (L1.map V.str) && nmB d) = _
  rw [inv_name]
theorem fB_two (n : Nat) (w : Str) (a b : PyData) : fB (n + 1) (.tuple [.str w, a, b]) = (w2 w && (fB n a && fB n b)) := by
  show (if w2 w = true then (fB n a && fB n b) else false) = _
  cases w2 w <;> rfl
theorem fB_no {d : PyData} (h : inner d = none) : ∀ n, fB n d = false
  | 0 => rfl
  | n + 1 => by
    cases d with
    | tuple ds =>
      rcases ds with _ | ⟨d0, r⟩
      · rfl
      · cases d0 with
        | str w =>
          rcases r with _ | ⟨x, _ | ⟨y, _ | ⟨z, r⟩⟩⟩
          · rw [fB_one]
            have e : (if w3 w = true then some ([] : List PyData) else none) = none := h
            cases q : w3 w with
            | false => rfl
            | true => rw [q] at e; cases e
          · rw [fB_nam]
            have e : (if (w1 w && nmB x) = true then some ([] : List PyData) else none) = none := h
            cases q : (w1 w && nmB x) with
            | false => rfl
            | true => rw [q] at e; cases e
          · rw [fB_two]
            have e : (if w2 w = true then some [x, y] else none) = none := h
            cases q : w2 w with
            | false => rfl
            | true => rw [q] at e; cases e
          · have e : ∀ (k : Nat) (ws : List Str), k ≤ 3 → headB (.tuple (.str w :: x :: y :: z :: r)) k ws = false := fun k ws hk => by
              show (decide ((x :: y :: z :: r).length + 1 = k) && _) = false
              rw [decide_eq_false (by simp only [List.length_cons]; omega)]
              rfl
            show (headB _ 1 L3 || (if headB _ 3 L2w = true then _ else headB _ 2 L1 && named _)) = false
            rw [e 1 _ (by decide), e 3 _ (by decide), e 2 _ (by decide)]
            rfl
        | _ => rfl
    | _ => rfl
theorem inner_ways (d : PyData) : inner d = none ∨ (inner d = some [] ∧ kids d = none ∧ ∀ n, fB (n + 1) d = true) ∨ ∃ w a b, d = .tuple [.str w, a, b] ∧ w2 w = true ∧ inner d = some [a, b] := by
  cases d with
  | tuple ds =>
    rcases ds with _ | ⟨d0, r⟩
    · exact .inl rfl
    · cases d0 with
      | str w =>
        rcases r with _ | ⟨x, _ | ⟨y, _ | ⟨z, r⟩⟩⟩
        · cases q : w3 w with
          | false => exact .inl (by show (if w3 w = true then some ([] : List PyData) else none) = none; rw [q]; rfl)
          | true => exact .inr (.inl ⟨by show (if w3 w = true then some ([] : List PyData) else none) = some []; rw [q]; rfl, rfl, fun n => by rw [fB_one, q]⟩)
        · cases q : (w1 w && nmB x) with
          | false => exact .inl (by show (if (w1 w && nmB x) = true then some ([] : List PyData) else none) = none; rw [q]; rfl)
          | true => exact .inr (.inl ⟨by show (if (w1 w && nmB x) = true then some ([] : List PyData) else none) = some []; rw [q]; rfl, rfl, fun n => by rw [fB_nam, q]⟩)
        · cases q : w2 w with
          | false => exact .inl (by show (if w2 w = true then some [x, y] else none) = none; rw [q]; rfl)
          | true => exact .inr (.inr ⟨w, x, y, rfl, q, by show (if w2 w = true then some [x, y] else none) = some [x, y]; rw [q]; rfl⟩)
        · exact .inl rfl
      | _ => first | exact .inl rfl | (rcases r with _ | ⟨_, _ | ⟨_, _ | ⟨_, _⟩⟩⟩ <;> exact .inl rfl)
  | _ => exact .inl rfl
def okk (m n k : Nat) (d : PyData) : Bool := fB m d && (decide ((ms m d).1 + k ≤ 31) && decide ((ms m d).2.1 ≤ n))
theorem pf_no {d : PyData} (h : inner d = none) (n k : Nat) (st fd : List (PyData × Nat)) : pf n ((d, k) :: st) fd = none := by
  cases n with
  | zero => rfl
  | succ n => show (match inner d with | none => none | some ds => _) = none; rw [h]
theorem pf_some {d : PyData} {ds : List PyData} (h : inner d = some ds) (n k : Nat) (st fd : List (PyData × Nat)) : pf (n + 1) ((d, k) :: st) fd = if 30 < k then none else pf n ((ds.map fun x => (x, k + 1)).reverse ++ st) (fd ++ [(d, k)]) := by
  show (match inner d with | none => none | some ds => if 30 < k then none else pf n ((ds.map fun x => (x, k + 1)).reverse ++ st) (fd ++ [(d, k)])) = _
  rw [h]
theorem pf_eq : ∀ (m : Nat) (d : PyData) (k n : Nat) (st fd : List (PyData × Nat)), d.depth ≤ m →
    pf n ((d, k) :: st) fd = if okk m n k d = true then pf (n - (ms m d).2.1) st (fd ++ prt m d k) else none
  | 0, d, k, n, st, fd, hd => by
    rcases inner_ways d with h | ⟨h, hk, hf⟩ | ⟨w, a, b, rfl, hw, h⟩
    · rw [pf_no h]; rfl
    · exfalso
      cases d with
      | tuple ds => simp only [PyData.depth] at hd; omega
      | _ => cases h
    · simp only [PyData.depth] at hd; omega
  | m + 1, d, k, n, st, fd, hd => by
    rcases inner_ways d with h | ⟨h, hk, hf⟩ | ⟨w, a, b, rfl, hw, h⟩
    · rw [pf_no h]
      have e : okk (m + 1) n k d = false := by unfold okk; rw [fB_no h]; rfl
      rw [e]; rfl
    · have em : ms (m + 1) d = (1, 1, nameOf d) := by
        show (match kids d with | some (a, b) => two (ms m a) (ms m b) | none => (1, 1, nameOf d)) = _
        rw [hk]
      have ep : prt (m + 1) d k = [(d, k)] := by
        show (d, k) :: (match kids d with | some (a, b) => prt m b (k + 1) ++ prt m a (k + 1) | none => []) = _
        rw [hk]
      have eo : okk (m + 1) n k d = (decide (1 + k ≤ 31) && decide (1 ≤ n)) := by unfold okk; rw [hf m, em]; rfl
      rw [eo, em, ep]
      cases n with
      | zero =>
        rw [decide_eq_false (by omega : ¬ (1 ≤ 0)), Bool.and_false]
        rfl
      | succ n =>
        rw [pf_some h]
        by_cases g : 30 < k
        · rw [if_pos g, decide_eq_false (by omega : ¬ (1 + k ≤ 31))]
          rfl
        · rw [if_neg g, decide_eq_true (by omega : 1 + k ≤ 31), decide_eq_true (by omega : 1 ≤ n + 1)]
          rfl
    · obtain ⟨da, db⟩ := depth_two hd
      have em : ms (m + 1) (.tuple [.str w, a, b]) = two (ms m a) (ms m b) := rfl
      have ep : prt (m + 1) (.tuple [.str w, a, b]) k = (.tuple [.str w, a, b], k) :: (prt m b (k + 1) ++ prt m a (k + 1)) := rfl
      have pa := ms_pos m a
      have pb := ms_pos m b
      have eo : okk (m + 1) n k (.tuple [.str w, a, b]) = ((fB m a && fB m b) && (decide (max (ms m a).1 (ms m b).1 + 1 + k ≤ 31) && decide ((ms m a).2.1 + (ms m b).2.1 + 1 ≤ n))) := by
        unfold okk
        rw [fB_two, hw, Bool.true_and, em]
        rfl
      rw [eo, em, ep]
      cases n with
      | zero =>
        rw [decide_eq_false (by omega : ¬ ((ms m a).2.1 + (ms m b).2.1 + 1 ≤ 0)), Bool.and_false, Bool.and_false]
        rfl
      | succ n =>
        rw [pf_some h]
        by_cases g : 30 < k
        · rw [if_pos g, decide_eq_false (by omega : ¬ (max (ms m a).1 (ms m b).1 + 1 + k ≤ 31)), Bool.false_and, Bool.and_false]
          rfl
        · rw [if_neg g]
          show pf n ((b, k + 1) :: (a, k + 1) :: st) (fd ++ [(PyData.tuple [.str w, a, b], k)]) = _
          rw [pf_eq m b (k + 1) n _ _ db]
          cases hb : okk m n (k + 1) b with
          | false =>
            have e : ((fB m a && fB m b) && (decide (max (ms m a).1 (ms m b).1 + 1 + k ≤ 31) && decide ((ms m a).2.1 + (ms m b).2.1 + 1 ≤ n + 1))) = false := by
              rw [Bool.eq_false_iff]
              intro z
              simp only [Bool.and_eq_true, decide_eq_true_eq] at z
              have : okk m n (k + 1) b = true := by
                unfold okk
                simp only [Bool.and_eq_true, decide_eq_true_eq]
                exact ⟨z.1.2, by omega, by omega⟩
              rw [hb] at this
              cases this
            rw [e]
            rfl
          | true =>
            rw [if_pos rfl, pf_eq m a (k + 1) _ _ _ da]
            have hb' := hb
            unfold okk at hb'
            simp only [Bool.and_eq_true, decide_eq_true_eq] at hb'
            have e : ((fB m a && fB m b) && (decide (max (ms m a).1 (ms m b).1 + 1 + k ≤ 31) && decide ((ms m a).2.1 + (ms m b).2.1 + 1 ≤ n + 1))) = okk m (n - (ms m b).2.1) (k + 1) a := by
              unfold okk
              rw [Bool.eq_iff_iff]
              simp only [Bool.and_eq_true, decide_eq_true_eq]
              constructor
              · rintro ⟨⟨h1, h2⟩, h3, h4⟩
                exact ⟨h1, by omega, by omega⟩
              · rintro ⟨h1, h3, h4⟩
                exact ⟨⟨h1, hb'.1⟩, by omega, by omega⟩
            rw [e]
            have e2 : n - (ms m b).2.1 - (ms m a).2.1 = n + 1 - (two (ms m a) (ms m b)).2.1 := by
              show _ = n + 1 - ((ms m a).2.1 + (ms m b).2.1 + 1)
              omega
            rw [e2, List.append_assoc, List.append_assoc]
            rfl
theorem pf_kd {m : Nat} {d : PyData} (hd : d.depth ≤ m) : pf 2000 [(d, 1)] [] = if kdB m d = true then some (prt m d 1) else none := by
  rw [pf_eq m d 1 2000 [] [] hd]
  have e : okk m 2000 1 d = kdB m d := by
    unfold okk kdB
    congr 2
    exact decide_eq_decide.mpr (by omega)
  rw [e]
  cases kdB m d with
  | false => rfl
  | true =>
    rw [if_pos rfl, if_pos rfl, List.nil_append]
    cases (2000 - (ms m d).2.1) <;> rfl
theorem prt_len : ∀ (n : Nat) (d : PyData) (k : Nat), (prt n d k).length = (ms n d).2.1
  | 0, _, _ => rfl
  | n + 1, d, k => by
    show ((d, k) :: (match kids d with | some (a, b) => prt n b (k + 1) ++ prt n a (k + 1) | none => [])).length = (match kids d with | some (a, b) => two (ms n a) (ms n b) | none => (1, 1, nameOf d)).2.1
    cases kids d with
    | none => rfl
    | some p =>
      obtain ⟨a, b⟩ := p
      show (prt n b (k + 1) ++ prt n a (k + 1)).length + 1 = (ms n a).2.1 + (ms n b).2.1 + 1
      rw [List.length_append, prt_len n b, prt_len n a]
      omega
theorem prt_top : ∀ (n : Nat) (d : PyData) (k : Nat), (∀ p ∈ prt n d k, p.2 + 1 ≤ k + (ms n d).1) ∧ ∃ p ∈ prt n d k, p.2 + 1 = k + (ms n d).1
  | 0, d, k => ⟨fun p h => by rw [List.mem_singleton.mp h]; exact Nat.le_refl _, ⟨(d, k), List.mem_singleton.mpr rfl, rfl⟩⟩
  | n + 1, d, k => by
    show (∀ p ∈ ((d, k) :: (match kids d with | some (a, b) => prt n b (k + 1) ++ prt n a (k + 1) | none => [])), p.2 + 1 ≤ k + (match kids d with | some (a, b) => two (ms n a) (ms n b) | none => (1, 1, nameOf d)).1) ∧
      ∃ p ∈ ((d, k) :: (match kids d with | some (a, b) => prt n b (k + 1) ++ prt n a (k + 1) | none => [])), p.2 + 1 = k + (match kids d with | some (a, b) => two (ms n a) (ms n b) | none => (1, 1, nameOf d)).1
    cases kids d with
    | none => exact ⟨fun p h => by rw [List.mem_singleton.mp h]; exact Nat.le_refl _, ⟨(d, k), List.mem_singleton.mpr rfl, rfl⟩⟩
    | some q =>
      obtain ⟨a, b⟩ := q
      obtain ⟨a1, pa, ma, ea⟩ := prt_top n a (k + 1)
      obtain ⟨b1, pb, mb, eb⟩ := prt_top n b (k + 1)
      show (∀ p ∈ ((d, k) :: (prt n b (k + 1) ++ prt n a (k + 1))), p.2 + 1 ≤ k + (max (ms n a).1 (ms n b).1 + 1)) ∧ ∃ p ∈ ((d, k) :: (prt n b (k + 1) ++ prt n a (k + 1))), p.2 + 1 = k + (max (ms n a).1 (ms n b).1 + 1)
      refine ⟨fun p h => ?_, ?_⟩
      · rcases List.mem_cons.mp h with rfl | h
        · show k + 1 ≤ _; omega
        · rcases List.mem_append.mp h with h | h
          · have := b1 p h; omega
          · have := a1 p h; omega
      · by_cases g : (ms n a).1 ≤ (ms n b).1
        · exact ⟨pb, List.mem_cons_of_mem _ (List.mem_append_left _ mb), by omega⟩
        · exact ⟨pa, List.mem_cons_of_mem _ (List.mem_append_right _ ma), by omega⟩
/-- a part's form -/
def Frm (d : PyData) : Prop := (∃ w, d = .tuple [.str w] ∧ w1 w = false) ∨ (∃ w x, d = .tuple [.str w, .str x] ∧ w1 w = true) ∨ ∃ w a b, d = .tuple [.str w, a, b] ∧ w1 w = false
theorem w2_name {w : Str} (h : w2 w = true) : w1 w = false := by
  cases q : w1 w with
  | false => rfl
  | true =>
    have e : V.str w = V.str "name" := of_decide_eq_true q
    injection e with e
    rw [e] at h
    exact absurd h (by decide +kernel)
theorem frm_of {n : Nat} {d : PyData} (h : fB (n + 1) d = true) : Frm d := by
  rcases fB_ways h with ⟨w, rfl, _, b⟩ | ⟨w, x, rfl, _, b⟩ | ⟨w, a, b, rfl, c, _⟩
  · exact .inl ⟨w, rfl, b⟩
  · exact .inr (.inl ⟨w, x, rfl, b⟩)
  · exact .inr (.inr ⟨w, a, b, rfl, w2_name c⟩)
theorem prt_frm : ∀ (n : Nat) (d : PyData) (k : Nat), fB n d = true → ∀ p ∈ prt n d k, Frm p.1
  | 0, _, _, h => by cases h
  | n + 1, d, k, h => by
    have hf := frm_of h
    rcases fB_ways h with ⟨w, rfl, _, _⟩ | ⟨w, x, rfl, _, _⟩ | ⟨w, a, b, rfl, _, fa, fb⟩
    · intro p m
      rw [List.mem_singleton.mp m]; exact hf
    · intro p m
      rw [List.mem_singleton.mp m]; exact hf
    · intro p m
      have m' : p ∈ ((.tuple [.str w, a, b], k) :: (prt n b (k + 1) ++ prt n a (k + 1))) := m
      rcases List.mem_cons.mp m' with rfl | m'
      · exact hf
      · rcases List.mem_append.mp m' with m' | m'
        · exact prt_frm n b _ fb p m'
        · exact prt_frm n a _ fa p m'
/-- the names among the parts -/
def nmsOf (l : List (PyData × Nat)) : List Str := l.flatMap fun p => nameOf p.1
theorem prt_names : ∀ (n : Nat) (d : PyData) (k : Nat), fB n d = true → (nmsOf (prt n d k)).Perm (ms n d).2.2
  | 0, _, _, h => by cases h
  | n + 1, d, k, h => by
    rcases fB_ways h with ⟨w, rfl, _, _⟩ | ⟨w, x, rfl, _, _⟩ | ⟨w, a, b, rfl, _, fa, fb⟩
    · exact List.Perm.refl _
    · exact List.Perm.refl _
    · have e : nmsOf (prt (n + 1) (.tuple [.str w, a, b]) k) = nmsOf (prt n b (k + 1)) ++ nmsOf (prt n a (k + 1)) := by
        show nmsOf ((.tuple [.str w, a, b], k) :: (prt n b (k + 1) ++ prt n a (k + 1))) = _
        unfold nmsOf
        rw [List.flatMap_cons, List.flatMap_append]
        show nameOf (.tuple [.str w, a, b]) ++ _ = _
        have z : nameOf (.tuple [.str w, a, b]) = [] := by
          cases a <;> rfl
        rw [z, List.nil_append]
      rw [e]
      exact (List.Perm.append (prt_names n b _ fb) (prt_names n a _ fa)).trans List.perm_append_comm
end Toy
set_option Elab.async false
set_option linter.all false
set_option maxRecDepth 100000
set_option maxHeartbeats 1000000
/-! sorted of texts, any number of them -/
namespace StrO
open PySem PyProof.Rows Srt SrtO
def ltS (v u : Value) : Bool := decide ((strOf v).cps.toList < (strOf u).cps.toList)
theorem ltS_swo : Swo ltS := by
  refine ⟨fun x y h => ?_, fun x y z h1 h2 => ?_⟩
  · have a := of_decide_eq_true (p := (strOf x).cps.toList < (strOf y).cps.toList) h
    exact decide_eq_false (p := (strOf y).cps.toList < (strOf x).cps.toList) (List.lt_asymm a)
  · have a := of_decide_eq_false (p := (strOf y).cps.toList < (strOf x).cps.toList) h1
    have b := of_decide_eq_false (p := (strOf z).cps.toList < (strOf y).cps.toList) h2
    refine decide_eq_false (p := (strOf z).cps.toList < (strOf x).cps.toList) ?_
    rw [List.not_lt] at a b ⊢
    exact List.le_trans a b
/-- in no descending order -/
def upS (xs : List Str) : Prop := xs.Pairwise fun x y => ¬ y.cps.toList < x.cps.toList
section
variable {prog : Program} {w : World} {A : Around} {E : Value → Shared → Prop} {s : Shared}
theorem strs_cmp {vs : List Value} {xs : List Str} (hI : StrsAre vs xs) : Cmp prog w A s oneType' (fun p => p.1 ∈ vs) (lt2 ltS) := by
  intro p q hm hm'
  obtain ⟨x, tx, ex⟩ := hI.all _ hm
  obtain ⟨y, ty, ey⟩ := hI.all _ hm'
  show wpAny (model prog w) A (keyLt' oneType' p.1 q.1) (fun r s' => s' = s ∧ r = ltS p.1 q.1) (fun _ _ => False) s
  rw [ex, ey, keyLt'_oneType]
  exact oneLt_str ⟨rfl, rfl⟩
theorem strs_sortable {a : Addr} {vs : List Value} {xs : List Str} (hI : StrsAre vs xs) (h2 : 2 ≤ vs.length) : SortableO prog w A s a vs ltS := by
  intro hp _
  refine ⟨oneType', fun Q E hq => ?_, strs_cmp hI⟩
  match vs, hI, h2 with
  | v1 :: v2 :: more, hI, _ =>
    rw [keyKind_strs hI]
    exact wpAny_pure hq
  | [], _, z => exact absurd z (by decide)
  | [v], _, z => exact absurd z (by simp)
theorem strs_out {vs out : List Value} {xs : List Str} (hI : StrsAre vs xs) (hs : Srtd ltS out) (hb : Stb ltS out vs) : StrsAre out (out.map strOf) ∧ (out.map strOf).Perm xs ∧ upS (out.map strOf) := by
  refine ⟨strsAre_map out fun v hv => hI.all v (hb.perm.mem_iff.mp hv), ?_, ?_⟩
  · have z := hb.perm.map strOf
    rw [hI.strs] at z
    exact z
  · exact List.pairwise_map.mpr (hs.imp fun {x y} h => of_decide_eq_false (p := (strOf y).cps.toList < (strOf x).cps.toList) h)
end
end StrO
namespace L2
open PySem PySem.Spec PyProof.Rows StrO
/-- sorted of a list of texts -/
def rSortedX (K : PySem.W.Frag) : List V → Hp → VK → Prop := fun vs H Q => ∃ (a : Addr) (xs : List Str), vs = [V.ref a] ∧ SqL K H a (xs.map V.str) ∧
  ∀ (ys : List Str) (p : Addr), ys.Perm xs → upS ys → H p = none → Q (.ref p) (upd H p (.lst (ys.map V.str)))
theorem cr_sortedX {X : Cx} : CallR X (.builtin "sorted") (rSortedX X.K) := by
  intro pins s σ H vs us Q I r h
  obtain ⟨a, xs, rfl, hs, q⟩ := h
  obtain ⟨its, rv, hl, hz⟩ := I.list hs
  rw [Vals.ref1 r]
  have hI := rv.strs
  have hz2 : xs.length ≤ sizeLine := by rw [List.length_map] at hz; exact hz
  refine SrtO.sorted_ord ltS_swo hl.isList (by rw [← rv.length]; exact hz) (fun h2 h1 b _ _ => strs_sortable hI h2) fun out h1 h2 => ?_
  obtain ⟨k1, k2, k3⟩ := strs_out hI h1 h2
  obtain ⟨ep, he⟩ := PyProof.Rows.sortedAll_at s.heap its out.toArray
  have len : ((out.map strOf).map V.str).length ≤ sizeLine := by rw [List.length_map, k2.length_eq]; exact hz2
  exact ⟨.ref _, upd H (s.heap.objs.size + 1) (.lst ((out.map strOf).map V.str)), I.laid (t' := s.toks) (fun _ _ => PyProof.Rows.sortedAll_old) (Nat.le_succ _) ⟨len, out, ep, vals_of_strs k1, he⟩, rfl, q _ _ k2 k3 (I.hok.fresh (Nat.le_succ _))⟩
end L2
set_option Elab.async false
set_option linter.all false
set_option maxRecDepth 100000
set_option maxHeartbeats 1000000
/-! a set of texts, made of a list, and sorted -/
namespace StrT
open PySem PySem.Spec PyProof.Rows L2 StrO
def kyS (e : Int × Value) : Str := strOf e.2
def GdS (P : Program) (w : World) (e : Int × Value) : Prop := ∃ x tx, e.2 = Value.str x tx ∧ e.1 = (PySem.strKind P w).hash x
/-- the set of texts at a -/
structure StD (P : Program) (w : World) (S : Str → Bool) (n : Nat) (es : Array (Int × Value)) (t : SetTable) : Prop where
  gd : ∀ e ∈ es.toList, GdS P w e
  nd : (es.toList.map kyS).Nodup
  mem : ∀ x, S x = true ↔ x ∈ es.toList.map kyS
  small : es.size < scanBound
  fit : t.fits es.size = true
  size : es.size = n
  ris : Ris t.place.toList
  led : w.params.followText "set-order" = true ∨ t.led = true
def StS (P : Program) (w : World) (h : Heap) (a : Addr) (S : Str → Bool) (n : Nat) : Prop :=
  ∃ o es ep t, h.get? a = some o ∧ o.ExactSet ∧ o.data = .set es ep t ∧ StD P w S n es t
section
variable {P : Program} {w : World} {h : Heap} {a : Addr} {S : Str → Bool} {n : Nat}
theorem gds_elems {l : List (Int × Value)} (g : ∀ e ∈ l, GdS P w e) : ElemsOf (PySem.strKind P w) l := fun e he => by
  obtain ⟨x, tx, e1, e2⟩ := g e he
  exact ⟨⟨x, by rw [e1]; exact strKind_is P w x tx, e2⟩, by rw [e1]; rfl⟩
theorem gds_is {e : Int × Value} (g : GdS P w e) (x : Str) : (PySem.strKind P w).is x e.2 = true ↔ kyS e = x := by
  obtain ⟨y, ty, e1, _⟩ := g
  unfold kyS
  rw [e1]
  show ((Value.str y ty).isStrOf x = true) ↔ y = x
  simp [Value.isStrOf]
theorem gds_mem {l : List (Int × Value)} (g : ∀ e ∈ l, GdS P w e) (x : Str) : x ∈ l.map kyS ↔ ∃ e ∈ l, (PySem.strKind P w).is x e.2 = true := by
  rw [List.mem_map]
  exact ⟨fun ⟨e, he, q⟩ => ⟨e, he, (gds_is (g e he) x).2 q⟩, fun ⟨e, he, q⟩ => ⟨e, he, (gds_is (g e he) x).1 q⟩⟩
end
section
variable {P : Program} {w : World} {A : Around} {E : Value → Shared → Prop} {s : Shared} {a : Addr} {S : Str → Bool} {n : Nat}
theorem sts_tail {gv : Bool → Sem Unit} (hg : ∀ (b : Bool) (s₁ : Shared) (Q' : Unit → Shared → Prop), Q' () s₁ → wpAny (model P w) A (gv b) Q' E s₁)
    {o : Obj} {es es1 : Array (Int × Value)} {ep : Nat} {t t2 : SetTable} (ho : s.heap.get? a = some o) (hex : o.ExactSet) (hd : o.data = .set es ep t) {S' : Str → Bool} (D : StD P w S' es1.size es1 t2) {was : Bool} {R : Option Bool → Shared → Prop}
    (hR : ∀ hp, Heap.SameBut a s.heap hp → StS P w hp a S' es1.size → R (some true) { s with heap := hp }) :
    wpAny (model P w) A (do
      storeSet a es1 t2
      if (!was && t2.tooFull) = true then do
        gv (relayAll t2 es1 (SetTable.grown es1.size)).2.2
        storeSet a (relayAll t2 es1 (SetTable.grown es1.size)).1 (relayAll t2 es1 (SetTable.grown es1.size)).2.1
        pure (some true)
      else pure (some true)) R E s := by
  have at1 := store_at (es' := es1) (t' := t2) ho hd
  have but1 := Heap.SameBut.update s.heap a (Obj.putSet es1 t2)
  refine wpAny_bind (wpAny_storeSet_of ho hd ?_ (fits_of_scanBound D.small))
  split
  · have pm := relayAll_perm t2 es1 (SetTable.grown es1.size)
    have f3 := relayAll_fits t2 es1 (SetTable.grown es1.size)
    have r3 := relayAll_ris t2 es1 (SetTable.grown es1.size)
    have l3 := relayAll_led t2 es1 (SetTable.grown es1.size)
    generalize relayAll t2 es1 (SetTable.grown es1.size) = Z at pm f3 r3 l3 ⊢
    obtain ⟨es2, t3, gave⟩ := Z
    dsimp only at pm f3 r3 l3 ⊢
    have z2 : es2.size = es1.size := by rw [← Array.length_toList, pm.length_eq, Array.length_toList]
    have b2 : es2.size < scanBound := by rw [z2]; exact D.small
    refine wpAny_bind (hg _ _ _ (wpAny_bind (wpAny_storeSet_of at1 rfl (wpAny_pure (hR _ (but1.trans (Heap.SameBut.update _ a _)) ?_)) (fits_of_scanBound b2))))
    exact ⟨_, es2, _, t3, store_at (es' := es2) (t' := t3) at1 rfl, hex, rfl, fun e he => D.gd e (pm.mem_iff.mp he), (pm.map kyS).nodup_iff.mpr D.nd, fun x => (D.mem x).trans (pm.map kyS).mem_iff.symm, b2, f3, z2, r3, D.led.imp id fun z => by rw [l3]; exact z⟩
  · exact wpAny_pure (hR _ but1 ⟨_, es1, _, t2, at1, hex, rfl, D⟩)
theorem sts_add {x : Str} {tk : Tok} {Q : Bool → Shared → Prop} (R : StS P w s.heap a S n) (room : n + 1 < scanBound)
    (hQ : ∀ hp, Heap.SameBut a s.heap hp → StS P w hp a (fun y => S y || decide (y = x)) (if S x = true then n else n + 1) → Q (!S x) { s with heap := hp }) :
    wpAny (model P w) A (setAddHashed a (.str x tk) ((PySem.strKind P w).hash x)) Q E s := by
  obtain ⟨o, es, ep, t, ho, hex, hd, D⟩ := R
  have kx : (PySem.strKind P w).is x (.str x tk) = true := strKind_is P w x tk
  have sc : (Value.str x tk).scannable = true := rfl
  have el : ElemsOf (PySem.strKind P w) es.toList := gds_elems D.gd
  unfold setAddHashed setAddHashedIn
  refine wpAny_holding (wpAny_bind (wpAny_setState_of ho hd D.fit ?_))
  dsimp only
  rw [byScan_of sc D.small el]
  simp only [↓reduceIte]
  unfold setAddByScan
  refine wpAny_bind (wpAny_bind (wpAny_rule (wpAny_bind (wpAny_setScan_of kx ho hd D.fit el ?_))))
  cases hfi : List.findIdx? (fun e => (PySem.strKind P w).is x e.2) es.toList with
  | some j =>
    dsimp only
    obtain ⟨hj, pj, _⟩ := List.findIdx?_eq_some_iff_getElem.mp hfi
    have Sx : S x = true := (D.mem x).2 ((gds_mem D.gd x).2 ⟨es.toList[j], List.getElem_mem hj, pj⟩)
    have q := hQ s.heap (Heap.SameBut.refl a s.heap) ⟨o, es, ep, t, ho, hex, hd, { D with
      mem := fun y => by
        rw [Bool.or_eq_true, decide_eq_true_eq, ← D.mem y]
        exact ⟨fun z => z.elim id (fun e => e ▸ Sx), .inl⟩
      size := by rw [if_pos Sx]; exact D.size }⟩
    rw [Sx] at q
    exact wpAny_pure (wpAny_pure q)
  | none =>
    dsimp only
    have nx : x ∉ es.toList.map kyS := fun z => by
      obtain ⟨e, he, q⟩ := (gds_mem D.gd x).1 z
      have c := List.findIdx?_eq_none_iff.mp hfi e he
      rw [q] at c
      cases c
    have Sx : S x = false := by
      cases q : S x with
      | false => rfl
      | true => exact absurd ((D.mem x).1 q) nx
    have gw : ∀ (b : Bool) {s₁ : Shared} {Q' : Unit → Shared → Prop}, Q' () s₁ → wpAny (model P w) A (match b with | true => rule "set.scan.the-table-gave-way" | false => pure ()) Q' E s₁ :=
      fun b _ _ q => by cases b <;> first | exact wpAny_pure q | exact wpAny_rule q
    have pm := layNew_perm t es ((PySem.strKind P w).hash x) (.str x tk)
    have f1 := layNew_fits t es ((PySem.strKind P w).hash x) (.str x tk)
    have r1 := layNew_ris t es ((PySem.strKind P w).hash x) (.str x tk) D.ris
    have l1 := layNew_led t es ((PySem.strKind P w).hash x) (.str x tk)
    generalize layNew t es ((PySem.strKind P w).hash x) (.str x tk) = Z at pm f1 r1 l1 ⊢
    obtain ⟨es1, t1, was, gave⟩ := Z
    dsimp only at pm f1 r1 l1 ⊢
    rw [Array.toList_push] at pm
    have pc : es1.toList.Perm (((PySem.strKind P w).hash x, Value.str x tk) :: es.toList) := pm.trans (List.perm_append_singleton _ _)
    have pk : (es1.toList.map kyS).Perm (x :: es.toList.map kyS) := pc.map kyS
    have z1 : es1.size = n + 1 := by rw [← Array.length_toList, pc.length_eq, List.length_cons, Array.length_toList, D.size]
    have D1 : ∀ t2 : SetTable, t2.fits es1.size = true → Ris t2.place.toList → (t2.led = t1.led) → StD P w (fun y => S y || decide (y = x)) es1.size es1 t2 := fun t2 hf hr hl => {
      gd := fun e he => by
        rcases List.mem_cons.mp (pc.mem_iff.mp he) with z | z
        · rw [z]; exact ⟨x, tk, rfl, rfl⟩
        · exact D.gd e z
      nd := pk.nodup_iff.mpr (List.nodup_cons.mpr ⟨nx, D.nd⟩)
      mem := fun y => by
        rw [Bool.or_eq_true, decide_eq_true_eq, D.mem y, pk.mem_iff, List.mem_cons]
        exact Or.comm
      small := by rw [z1]; exact room
      fit := hf
      size := rfl
      ris := hr
      led := D.led.imp id fun z => by rw [hl, l1]; exact z }
    have fin : ∀ hp, Heap.SameBut a s.heap hp → StS P w hp a (fun y => S y || decide (y = x)) es1.size → Q true { s with heap := hp } := fun hp sb r => by
      have q := hQ hp sb
      rw [Sx] at q
      rw [z1] at r
      exact q r
    refine wpAny_bind (gw _ ?_)
    split
    · refine wpAny_bind ?_
      rw [hashByValue_scannable 8 sc]
      refine wpAny_pure (sts_tail ?_ ho hex hd (D1 _ ?_ ?_ ?_) ?_)
      · intro b s₁ Q' q; cases b <;> first | exact wpAny_pure q | exact wpAny_rule q
      · first | (split <;> first | exact f1 | exact SetTable.fits_plain_off f1) | exact f1
      · first | (split <;> exact r1) | exact r1
      · first | (split <;> rfl) | rfl
      · intro hp sb r; dsimp only; exact wpAny_pure (fin hp sb r)
    · refine wpAny_bind (wpAny_pure ?_)
      simp only [↓reduceIte]
      refine sts_tail ?_ ho hex hd (D1 t1 f1 r1 rfl) ?_
      · intro b s₁ Q' q; cases b <;> first | exact wpAny_pure q | exact wpAny_rule q
      · intro hp sb r; dsimp only; exact wpAny_pure (fin hp sb r)
end
end StrT
set_option Elab.async false
set_option linter.all false
set_option maxRecDepth 100000
set_option maxHeartbeats 3200000
namespace StrT
open PySem PySem.Spec PyProof.Rows L2 StrO
theorem StS.at {P : Program} {w : World} {h h' : Heap} {a : Addr} {S : Str → Bool} {n : Nat} (R : StS P w h a S n) (k : ∀ o, h.get? a = some o → h'.get? a = some o) : StS P w h' a S n := by
  obtain ⟨o, es, ep, t, ho, r⟩ := R
  exact ⟨o, es, ep, t, k o ho, r⟩
theorem StS.congr {P : Program} {w : World} {h : Heap} {a : Addr} {S S' : Str → Bool} {n : Nat} (R : StS P w h a S n) (e : ∀ x, S' x = S x) : StS P w h a S' n := by
  have q : S' = S := funext e
  rw [q]; exact R
abbrev freshSet (w : World) : Obj := { cls := .type "set", dict := none, data := .set #[] 0 (.fresh 0 0 (!w.params.followText "set-order")) }
theorem sts_fresh {P : Program} {w : World} {h : Heap} {a : Addr} {xs : List Str} (ho : h.get? a = some (freshSet w)) : StS P w h a (fun x => decide (x ∈ xs.take 0)) 0 :=
  ⟨_, #[], 0, _, ho, ⟨rfl, rfl, rfl⟩, rfl, {
    gd := fun e he => by simp at he
    nd := by simp
    mem := fun x => by simp
    small := by decide
    fit := by rfl
    size := rfl
    ris := List.Pairwise.nil
    led := by
      show _ ∨ (!w.params.followText "set-order") = true
      cases w.params.followText "set-order"
      · exact .inr rfl
      · exact .inl rfl }⟩
theorem strs_item {us : List Value} {xs : List Str} (h : StrsAre us xs) {i : Nat} {v : Value} (hv : us[i]? = some v) : ∃ x t, xs[i]? = some x ∧ v = .str x t := by
  have hi : i < xs.length := by
    rw [← StrsAre.len_eq h]; exact (List.getElem?_eq_some_iff.mp hv).1
  obtain ⟨t, e⟩ := SS.strs_at h i v hv
  refine ⟨xs[i], t, List.getElem?_eq_getElem hi, ?_⟩
  rw [e, List.getD_eq_getElem?_getD, List.getElem?_eq_getElem hi]
  rfl
section
variable {P : Program} {w : World} {A : Around} {E : Value → Shared → Prop} {s : Shared}
theorem update_strs {I : Addr} {fp wr : List Addr} {G : Array GenState → Array GenState → Prop} {n : Nat} {Pv : Nat → Value → Prop} {St : Nat → Shared → Prop} {R : Result → Shared → Prop}
    (W : WalksS P w A.in1 I fp wr G n Pv St) (a : Addr) (ha : a ∉ fp) (xs : List Str) (hn : n = xs.length) (hb : xs.length + 1 < scanBound) (hval : ∀ i v, Pv i v → ∃ x t, xs[i]? = some x ∧ v = .str x t) :
    ∀ (k i : Nat) (s : Shared), n - i = k → i ≤ n → St i s → (∃ c, c ≤ i ∧ StS P w s.heap a (fun x => decide (x ∈ xs.take i)) c) →
      (∀ s' c, Moved (a :: wr) G s s' → c ≤ n → StS P w s'.heap a (fun x => decide (x ∈ xs)) c → R (.ok (.ret .none)) s') →
      codeAny (model P w) A (.builtin "set.update.loop" ⟨[.ref a, .ref I], []⟩) R s := by
  have naw : a ∉ wr := fun z => ha (W.sub _ z)
  have sub : ∀ b ∈ wr, b ∈ a :: wr := fun b hb => List.mem_cons_of_mem _ hb
  intro k
  induction k with
  | zero =>
    intro i s hk hi hst ⟨c, hc, hS⟩ hR
    obtain rfl : i = n := by omega
    refine codeAny_builtin PyProof.Rows.F.entry_set_update_loop ?_
    rw [Around.under_plainId PyProof.Rows.F.plain_set_update_loop _]
    show wpAny _ A.in1 (pyNext (.ref I) >>= _) _ _ s
    refine wpAny_bind (W.done s _ _ hst fun s' mv => ?_)
    show wpAny _ A.in1 (ret Value.none) _ _ s'
    rw [List.take_of_length_le (by omega : xs.length ≤ i)] at hS
    exact wpAny_pure (hR s' c (mv.mono sub) hc (hS.at fun o e => mv.heap a o naw e))
  | succ k ih =>
    intro i s hk hi hst ⟨c, hc, hS⟩ hR
    have lt : i < n := by omega
    refine codeAny_builtin PyProof.Rows.F.entry_set_update_loop ?_
    rw [Around.under_plainId PyProof.Rows.F.plain_set_update_loop _]
    show wpAny _ A.in1 (pyNext (.ref I) >>= _) _ _ s
    refine wpAny_bind (W.item i s _ _ lt hst fun v s' hv hst' mv => ?_)
    obtain ⟨x, tx, hx, rfl⟩ := hval i v hv
    have hS1 : StS P w s'.heap a (fun y => decide (y ∈ xs.take i)) c := hS.at fun o e => mv.heap a o naw e
    show wpAny _ A.in1 (holding [Value.str x tx] (setAdd a (.str x tx)) >>= _) _ _ s'
    refine wpAny_bind (wpAny_holding ?_)
    unfold setAdd
    refine wpAny_holding (wpAny_bind ((PySem.strKind P w).pyHash (k := x) (strKind_is _ _ _ _) ?_))
    refine sts_add (s := { s' with toks := s'.toks + 1 }) hS1 (by omega) fun hp but hS2 => ?_
    have hS3 : StS P w hp a (fun y => decide (y ∈ xs.take (i + 1))) (if decide (x ∈ xs.take i) = true then c else c + 1) := hS2.congr fun y => by
      rw [List.take_add_one, hx]
      simp [List.mem_append]
    have le3 : (if decide (x ∈ xs.take i) = true then c else c + 1) ≤ i + 1 := by
      split <;> omega
    have oth : ∀ b o, b ≠ a → s'.heap.get? b = some o → hp.get? b = some o := fun b o nb e => by rw [but.2 b nb]; exact e
    refine wpAny_pure ⟨plainId_quiet PyProof.Rows.F.plain_set_update_loop _, ih (i + 1) _ (by omega) lt (W.frame _ s' _ _ hst' (Nat.le_succ _) fun b hb o e => oth b o (fun z => ha (by rw [← z]; exact hb)) e) ⟨_, le3, hS3⟩ fun s2 c2 mv2 hc2 hS4 => ?_⟩
    exact hR s2 c2 (Moved.trans W.gtrans ((mv.mono sub).then_heap (Nat.le_succ _) fun b o nb e => oth b o (fun z => nb (by rw [z]; exact List.mem_cons_self)) e) mv2) hc2 hS4
theorem call_set_texts {l : Addr} {items : Array Value} (xs : List Str) {Q : Value → Shared → Prop} (hh : A.handled = none) (hl : s.heap.IsList l items) (hit : StrsAre items.toList xs) (hb : xs.length + 1 < scanBound)
    (h : ∀ (hp : Heap) (tk c : Nat), StS P w hp s.heap.objs.size (fun x => decide (x ∈ xs)) c → c ≤ xs.length → (∀ b o, s.heap.get? b = some o → hp.get? b = some o) → Q (.ref s.heap.objs.size) { s with heap := hp, toks := tk }) :
    wpAny (model P w) A (call (.type "set") [.ref l]) Q E s := by
  have isz : items.size = xs.length := by
    have z := StrsAre.len_eq hit
    rw [Array.length_toList] at z
    exact z
  obtain ⟨c0, tl, hmro⟩ := PySem.F.called_set.mro
  have made := PySem.F.called_set.made
  have subs := PySem.F.called_set.sub
  refine wpAny_call (codeAny_of_tree ?_)
  show wpAny _ _ (callAny (.type "set") _) _ _ _
  refine wpAny_pure ⟨Code.quiet_builtin _ (by decide +kernel), codeAny_builtin PySem.F.entry_type_call ?_⟩
  rw [Around.under_plain (weight_type_call_type "set" [.ref l] []) rfl]
  have g1 := PySem.F.called_set.notType
  have g2 := PySem.F.called_set.canCreate
  have g3 := PySem.F.typeCall_set_1 (.ref l)
  repeat (any_goals (first | assumption | wp_step))
  refine codeAny_mono (code_set_led1 (.ref l) (E := E) (Q₁ := fun obj s₁ => obj = .ref s.heap.objs.size ∧ s₁ = { s with heap := s.heap.push (freshSet w) }) ⟨rfl, rfl⟩) fun r s₁ hr => ?_
  cases r with
  | error e => exact hr
  | ok fl =>
    cases fl with
    | ret obj =>
      obtain ⟨rfl, rfl⟩ := hr
      have atS : (s.heap.push (freshSet w)).get? s.heap.objs.size = some (freshSet w) := Heap.get?_push_size _ rfl
      have tyS : Shared.TypeIs { s with heap := s.heap.push (freshSet w) } (.ref s.heap.objs.size) "set" := ⟨_, atS, rfl⟩
      have li := PySem.F.called_set.init.lookup
      have bi := PySem.F.called_set.init.bind (.ref s.heap.objs.size)
      repeat (any_goals (first | assumption | wp_step))
      refine codeAny_mono (codeAny_call_builtin (R := wants (fun r s₂ => r = .none ∧ ∃ hp tk c, s₂ = { s with heap := hp, toks := tk } ∧ StS P w hp s.heap.objs.size (fun x => decide (x ∈ xs)) c ∧ c ≤ xs.length ∧
          (∀ b o, s.heap.get? b = some o → hp.get? b = some o)) E) PySem.F.called_set.init.plain PySem.F.entry_set_init (check_set_init_1 tyS ?_)) fun r₂ s₂ hr₂ => ?_
      · obtain ⟨ol, hol, hcl, nl, hdl⟩ := hl
        obtain ⟨ocls, odict, odata, oslots⟩ := ol
        simp only at hcl hdl
        subst hcl; subst hdl
        have hol2 : (s.heap.push (freshSet w)).get? l = some { cls := .type "list", dict := odict, data := .seq items nl, slots := oslots } := Heap.get?_push_of_some _ hol
        have m1 := PySem.F.sub_list_set
        have m2 := PySem.F.sub_list_frozenset
        have m3 : (Value.type "list" == Value.type "dict") = false := by decide
        have isl : (s.heap.push (freshSet w)).IsList l items := ⟨_, hol2, rfl, nl, rfl⟩
        unfold Builtin.«set.__init__» noKeywords Builtin.Frozenset.updateFrom
        generalize hPI : pyIter = PI
        wp_walk
        subst hPI
        refine wpAny_pyIter_list isl ?_
        refine wpAny_bind (wpAny_runValue ?_)
        have lS : l < s.heap.objs.size := Heap.lt_size hol
        have hh3 : A.in1.in1.in1.handled = none := by simp [hh]
        have sz1 : (s.heap.push (freshSet w)).objs.size = s.heap.objs.size + 1 := Heap.size_push ..
        have neI : l ≠ (s.heap.push (freshSet w)).objs.size := by rw [sz1]; exact Nat.ne_of_lt (Nat.lt_succ_of_lt lS)
        have nfS : s.heap.objs.size ∉ [(s.heap.push (freshSet w)).objs.size, l] := by
          rw [sz1]
          simp only [List.mem_cons, List.not_mem_nil, or_false, not_or]
          exact ⟨Nat.ne_of_lt (Nat.lt_succ_self _), Nat.ne_of_gt lS⟩
        refine update_strs ((Walks.list hh3 _ l neI items).toS) s.heap.objs.size nfS xs isz hb (fun i v hv => strs_item hit (by rw [Array.getElem?_toList]; exact hv)) (items.size - 0) 0 _ (by omega) (Nat.zero_le _)
          ⟨⟨_, Heap.get?_push_size _ rfl, rfl, rfl⟩, (isl.push _)⟩ ⟨0, Nat.le_refl 0, sts_fresh (Heap.get?_push_of_some _ atS)⟩ ?hR
        case hR =>
          intro s' c' mv le' hS'
          obtain ⟨hp, gn, dr, tk', os'⟩ := s'
          obtain rfl : gn = s.gens := mv.gens
          obtain rfl : dr = s.drawn := mv.drawn
          obtain rfl : os' = s.os := mv.os
          show wpAny _ _ _ _ _ _
          refine wpAny_pure ?_
          show wpAny _ _ (ret Value.none) _ _ _
          rw [isz] at le'
          refine wpAny_pure ⟨rfl, hp, tk', c', rfl, hS', le', fun b o e => ?_⟩
          have b0 : b < s.heap.objs.size := Heap.lt_size e
          exact mv.heap b o (by rw [sz1]; simp only [List.mem_cons, List.not_mem_nil, or_false, not_or]; exact ⟨Nat.ne_of_lt b0, Nat.ne_of_lt (Nat.lt_succ_of_lt b0)⟩) (Heap.get?_push_of_some _ (Heap.get?_push_of_some _ e))
      · cases r₂ with
        | error e => exact hr₂
        | ok fl₂ =>
          cases fl₂ with
          | ret r =>
            obtain ⟨rfl, hp, tk, c', rfl, hS', le', k'⟩ := hr₂
            repeat (any_goals (first | assumption | wp_step))
            exact h _ _ _ hS' le' k'
          | _ => exact hr₂.elim
    | _ => exact hr.elim
/-- sorted of a set of texts: its members, rising -/
theorem sorted_sts {S : Str → Bool} {n : Nat} {Q : Value → Shared → Prop} {a : Addr} (R : StS P w s.heap a S n) (hh : A.handled = none)
    (hQ : ∀ s' p (out : List Value) (c : Nat) (ys : List Str), (∀ b o, s.heap.get? b = some o → s'.heap.get? b = some o) → s'.gens = s.gens → s'.os = s.os → s.heap.objs.size ≤ p →
      s'.heap.get? p = some (seqObj "list" out.toArray c) → StrsAre out ys → upS ys → ys.Nodup → (∀ x, x ∈ ys ↔ S x = true) → ys.length = n → Q (.ref p) s') :
    wpAny (model P w) A (call (.builtin "sorted") [.ref a]) Q E s := by
  obtain ⟨o, es, ep, t, ho, hex, hd, D⟩ := R
  refine Calls.call_function_entry kind_sorted plain_sorted entry_sorted (args_sorted1 _) ?_
  unfold Builtin.«sorted»
  refine wpAny_bind (m := checkCount "sorted" 1 1 _) (wpAny_pure ?_)
  refine wpAny_bind (collect_set (A := A.in1) hh ⟨o, ho, hex.1, hd⟩ D.fit D.small D.ris D.led fun s1 vs k1 hz g1 o1 pm => ?_)
  have vl : vs.length = n := by rw [pm.length_eq, List.length_map, Array.length_toList]; exact D.size
  have hI : StrsAre vs (vs.map strOf) := strsAre_map vs fun v hv => by
    obtain ⟨e, he, q⟩ := List.mem_map.mp (pm.mem_iff.mp hv)
    obtain ⟨x, tx, e1, _⟩ := D.gd e he
    exact ⟨x, tx, by rw [← q]; exact e1⟩
  have pk : (vs.map strOf).Perm (es.toList.map kyS) := by
    have q := pm.map strOf
    rw [List.map_map] at q
    exact q
  have small : n < scanBound := by rw [← D.size]; exact D.small
  have vz : vs.length ≤ sizeLine := by rw [vl]; exact Nat.le_trans (Nat.le_of_lt small) (by decide)
  refine wpAny_bind (wpAny_newList ?_ vz)
  have oL : (s1.heap.push (seqObj "list" vs.toArray 0)).get? s1.heap.objs.size = some (seqObj "list" vs.toArray 0) := Heap.get?_push_size _ rfl
  refine wpAny_bind (wpAny_holding (wpAny_call_entry slot_list_sort ⟨_, oL, rfl⟩ entry_list_sort (SrtO.list_sort_ord ltS_swo oL vz (fun h2 => strs_sortable hI h2) fun out h1 h2 => ⟨.none, rfl, ?_⟩) (args_list_sort _)))
  obtain ⟨c, hc⟩ := sortedHeap_at (vs := vs) (out := out.toArray) oL
  obtain ⟨a1, a2, a3⟩ := strs_out hI h1 h2
  have pn : (out.map strOf).Perm (es.toList.map kyS) := a2.trans pk
  refine wpAny_pure ⟨_, rfl, hQ _ s1.heap.objs.size out c (out.map strOf) (fun b u e => ?_) g1 o1 hz hc a1 a3 (pn.nodup_iff.mpr D.nd) (fun x => by rw [pn.mem_iff, ← D.mem x]) ?_⟩
  · have q := k1 b u e
    have lt := Heap.lt_size q
    show (sortedHeap (s1.heap.push (seqObj "list" vs.toArray 0)) s1.heap.objs.size vs out.toArray).get? b = some u
    rw [sortedHeap_old (Nat.ne_of_lt lt) (by rw [size_push']; exact Nat.lt_succ_of_lt lt)]
    exact Heap.get?_push_of_some _ q
  · rw [pn.length_eq, List.length_map, Array.length_toList]; exact D.size
end
end StrT
set_option Elab.async false
set_option linter.all false
set_option maxRecDepth 100000
set_option maxHeartbeats 1000000
namespace L2
open PySem PySem.Spec PyProof.Rows StrO StrT
/-- sorted(set(xs)), xs a list of texts -/
def tSortSet (K : PySem.W.Frag) (ta : TE) : TE := fun σ H Q => ta σ H fun x H1 => ∃ (l : Addr) (xs : List Str), x = .ref l ∧ SqL K H1 l (xs.map V.str) ∧ xs.length ≤ 4000 ∧
  ∀ (ys : List Str) (p : Addr), upS ys → ys.Nodup → (∀ z, z ∈ ys ↔ z ∈ xs) → ys.length ≤ xs.length → H1 p = none → Q (.ref p) (upd H1 p (.lst (ys.map V.str)))
theorem pe_sortSet {X : Cx} {a : Expr} {ta : TE} {p p2 q pos : Pos} (hg : Gl X "sorted") (hm : X.mg "sorted" = none) (hg2 : Gl X "set") (hm2 : X.mg "set" = none) (ha : PE X a ta) (hb : bootBuiltins "sorted" = some (.builtin "sorted") := by decide +kernel) (hc : X.calm = true := by rfl)
    (na : starEach [a] X.env = (false, eval a X.env) :: starEach [] X.env := by rfl) : PE X (.Call (.Name "sorted" p) [.Call (.Name "set" p2) [a] [] q] [] pos) (tSortSet X.K ta) := by
  refine ⟨fun pins s σ H Q I h => ?_⟩
  refine Call_ (ld_blt I hg hm hb ?_)
  refine PyProof.Rows.callWith_builtin1 (PyProof.Rows.args_cons ?_ rfl) rfl rfl
  refine Call_ (ld_blt I hg2 hm2 boot_set ?_)
  refine PyProof.Rows.callWith_type1 (PyProof.Rows.args_cons (thn (ha.run pins s σ H _ I h) fun v s1 ⟨x, H1, I1, r1, q1⟩ => PyProof.Rows.args_nil ?_) na) na rfl
  obtain ⟨l, xs, rfl, hq, hz, q1⟩ := q1
  cases r1
  obtain ⟨its, r, pl, _⟩ := I1.list hq
  refine call_set_texts xs (I1.ok.hd hc) pl.isList (by simpa using r.strs) (by unfold scanBound; omega) fun h' tk c hS hcl hk => ?_
  refine PyProof.Rows.args_nil ?_
  have I2 : Inv X pins σ H1 { s1 with heap := h', toks := tk } := I1.kept hk
  have hS : StS X.prog X.w ({ s1 with heap := h', toks := tk } : Shared).heap s1.heap.objs.size (fun x => decide (x ∈ xs)) c := hS
  generalize s1.heap.objs.size = aS at hS ⊢
  generalize ({ s1 with heap := h', toks := tk } : Shared) = s2 at I2 hS ⊢
  refine sorted_sts hS (I2.ok.hd hc) fun s' p out cc ys k g o hp hg2 hi up nd mem len => ?_
  have hlen : (ys.map V.str).length ≤ sizeLine := by rw [List.length_map, len]; exact Nat.le_trans (Nat.le_trans hcl hz) (by decide)
  have hn : H1 p = none := I2.hok.fresh hp
  have J : Inv X pins σ (upd H1 p (.lst (ys.map V.str))) { s2 with heap := s'.heap, gens := s'.gens, drawn := s'.drawn, toks := s'.toks } :=
    I2.call (ch := []) (Un.laid k hp hn) (I2.hok.laid k hp ⟨hlen, out, cc, vals_of_strs hi, hg2⟩) (by rw [g]; exact I2.bare) (fun _ z => nomatch z)
  have e : s' = { s2 with heap := s'.heap, gens := s'.gens, drawn := s'.drawn, toks := s'.toks } := by
    cases s'
    cases s2
    cases o
    rfl
  rw [e]
  exact ⟨.ref p, _, J, rfl, q1 ys p up nd (fun z => by rw [mem z, decide_eq_true_eq]) (by rw [len]; exact hcl) hn⟩
/-! ### rising texts are told by their members -/
theorem up_lt {x y : Str} (h : ¬ y.cps.toList < x.cps.toList) (n : x ≠ y) : x.cps.toList < y.cps.toList := by
  rw [List.not_lt] at h
  have e : x.cps.toList ≠ y.cps.toList := fun z => n (by
    cases x with
    | mk a => cases y with
      | mk b => exact congrArg Str.mk (by simpa using z))
  rcases Decidable.em (x.cps.toList < y.cps.toList) with g | g
  · exact g
  · exact absurd (List.le_antisymm h (List.not_lt.mp g)) e
theorem up_eq : ∀ {xs ys : List Str}, upS xs → xs.Nodup → upS ys → ys.Nodup → (∀ z, z ∈ xs ↔ z ∈ ys) → xs = ys
  | [], [], _, _, _, _, _ => rfl
  | [], y :: ys, _, _, _, _, h => absurd ((h y).2 List.mem_cons_self) (fun z => nomatch z)
  | x :: xs, [], _, _, _, _, h => absurd ((h x).1 List.mem_cons_self) (fun z => nomatch z)
  | x :: xs, y :: ys, u, n, u', n', h => by
    obtain ⟨a1, a2⟩ := List.pairwise_cons.mp u
    obtain ⟨b1, b2⟩ := List.pairwise_cons.mp u'
    obtain ⟨c1, c2⟩ := List.nodup_cons.mp n
    obtain ⟨d1, d2⟩ := List.nodup_cons.mp n'
    have e : x = y := by
      by_cases g : x = y
      · exact g
      · exfalso
        have hx : x ∈ ys := (List.mem_cons.mp ((h x).1 List.mem_cons_self)).resolve_left g
        have hy : y ∈ xs := (List.mem_cons.mp ((h y).2 List.mem_cons_self)).resolve_left fun z => g z.symm
        exact absurd (up_lt (a1 y hy) g) (b1 x hx)
    subst e
    rw [up_eq a2 c2 b2 d2 fun z => ?_]
    have q := h z
    rw [List.mem_cons, List.mem_cons] at q
    constructor
    · intro m
      exact (q.1 (.inr m)).resolve_left fun e => c1 (e ▸ m)
    · intro m
      exact (q.2 (.inr m)).resolve_left fun e => d1 (e ▸ m)
end L2
set_option Elab.async false
set_option linter.all false
set_option maxRecDepth 100000
set_option maxHeartbeats 2000000
namespace Toy
open PySem L2 StrO
abbrev sIsKind : Stmt := top 14
/-! no depth_of_kind here -/
abbrev absent_depth_of_kind : Nat := 0 -- abbrev sDeep : Stmt := top 13
/-! no parts_of_kind here -/
abbrev absent_parts_of_kind : Nat := 0 -- abbrev sMany : Stmt := top 14
/-! no names_in here -/
abbrev absent_names_in : Nat := 0 -- abbrev sNames : Stmt := top 15
abbrev sNmAm : Stmt := top 15
/-! no parts_known here -/
abbrev absent_parts_known : Nat := 0 -- abbrev sKnown : Stmt := top 17
/-- a kind: what is asked of it -/
def KdOf (K : PySem.W.Frag) (m : Nat) (H : Hp) (v : V) (d : PyData) : Prop := Dq K H v d ∧ txtB d = true ∧ d.depth ≤ m ∧ kdB m d = true
def spIk (K : PySem.W.Frag) (m : Nat) : Sp := fun vs H Q _ => ∃ (v : V) (d : PyData), vs = [v] ∧ Dq K H v d ∧ txtB d = true ∧ d.depth ≤ m ∧ ∀ H', Same H H' → Q (.bl (kdB m d)) H'
def spNa (K : PySem.W.Frag) : Sp := fun vs H Q _ => ∃ (l : Addr) (fs : List V) (G : Hp) (ps : List (PyData × Nat)), vs = [.ref l] ∧ H l = some (.lst fs) ∧ Rows K G H fs ps ∧ Same G H ∧ ps.length ≤ 3000 ∧ (∀ p ∈ ps, Frm p.1) ∧
  ∀ D H', Same H H' → H' D = some (.lst ((nmsOf ps).map V.str)) → Q (.ref D) H'
structure Ng (mg : Str → Option Value) : Prop where
  sorted : mg "sorted" = none
  set : mg "set" = none
  max : mg "max" = none
theorem rows_get {K : PySem.W.Frag} {G H : Hp} : ∀ {vs : List V} {ps : List (PyData × Nat)} {i : Nat} {v : V}, Rows K G H vs ps → vs[i]? = some v → ∃ p, ps[i]? = some p ∧ Row K G H v p
  | [], _, i, v, _, h => by simp at h
  | _ :: _, [], _, _, r, _ => r.elim
  | x :: vs, p :: ps, 0, v, r, h => by cases h; exact ⟨p, rfl, r.1⟩
  | x :: vs, p :: ps, i + 1, v, r, h => rows_get (vs := vs) (ps := ps) (i := i) r.2 h
theorem names_le (ps : List (PyData × Nat)) : (nmsOf ps).length ≤ ps.length := by
  induction ps with
  | nil => exact Nat.le_refl _
  | cons p r ih =>
    unfold nmsOf at ih ⊢
    rw [List.flatMap_cons, List.length_append, List.length_cons]
    have : (nameOf p.1).length ≤ 1 := by
      unfold nameOf
      split
      · exact Nat.le_refl 1
      · exact Nat.zero_le _
    omega
theorem nms_app (a b : List (PyData × Nat)) : nmsOf (a ++ b) = nmsOf a ++ nmsOf b := List.flatMap_append
section
variable {P : Program} {w : World} {K : PySem.W.Frag} {mg : Str → Option Value} {base : Heap} {m : Nat}
theorem scIk : FnScope ["value"] ["value"] (defScope sIsKind) := ⟨rfl, rfl, rfl, by decide +kernel, rfl, by decide +kernel, by decide +kernel⟩
theorem ok_iskind {f g : Addr} {fd gd : FuncData} (F : Fun K "is_kind" "is_kind" sIsKind f fd) (PF : Gv P w K mg base 4 "parts_found" g gd ["value"] (spPf K)) : FnOk P w K mg base CX0 5 f fd ["value"] (spIk K m) := by
  refine F.ok scIk (fun vs H Q E h => ?_) (fun cdv A outer s H vs Q E hr h => ?_)
  · obtain ⟨v, d, rfl, _⟩ := h
    rfl
  obtain ⟨v, d, rfl, hd, ht, hdp, q⟩ := h
  refine ⟨_, pss_one (ps_ret (pe_cmpR op_notN (pe_call PF.ok hr rfl PF.m PF.k PF.b .nil pass0 (pa_cons (pv 0) pa_nil)) pe_non (nomark _))), ?_⟩
  refine ⟨_, rfl, v, d, H, rfl, Same.refl H, hd, ht, fun u H1 s1 res => ?_⟩
  rw [pf_kd hdp] at res
  cases hk : kdB m d with
  | true =>
    rw [hk, if_pos rfl] at res
    obtain ⟨l, fs, rfl, hl, hR⟩ := res
    have z := q H1 s1
    rw [hk] at z
    exact ⟨rfl, z⟩
  | false =>
    rw [hk] at res
    obtain rfl : u = .non := res
    have z := q H1 s1
    rw [hk] at z
    exact ⟨rfl, z⟩
end
end Toy
set_option Elab.async false
set_option linter.all false
set_option maxRecDepth 100000
set_option maxHeartbeats 2000000
namespace Toy
open PySem L2 StrO
section
variable {P : Program} {w : World} {K : PySem.W.Frag} {mg : Str → Option Value} {base : Heap} {m : Nat}
theorem scNa : FnScope ["parts", "part", "depth"] ["parts"] (defScope sNmAm) := ⟨rfl, rfl, rfl, by decide +kernel, rfl, by decide +kernel, by decide +kernel⟩
theorem frm_name {d : PyData} (h : Frm d) : ∃ w r, d = .tuple (.str w :: r) ∧ ((w1 w = true ∧ ∃ x, r = [.str x] ∧ nameOf d = [x]) ∨ (w1 w = false ∧ nameOf d = [])) := by
  rcases h with ⟨w, rfl, b⟩ | ⟨w, x, rfl, b⟩ | ⟨w, a, c, rfl, b⟩
  · exact ⟨w, _, rfl, .inr ⟨b, rfl⟩⟩
  · exact ⟨w, _, rfl, .inl ⟨b, x, rfl, rfl⟩⟩
  · exact ⟨w, _, rfl, .inr ⟨b, by cases a <;> rfl⟩⟩
theorem ok_nmam {f : Addr} {fd : FuncData} (F : Fun K "names_among" "names_among" sNmAm f fd) : FnOk P w K mg base CX0 1 f fd ["parts"] (spNa K) := by
  refine F.ok scNa (fun vs H Q E h => ?_) (fun cdv A outer s H vs Q E hr h => ?_)
  · obtain ⟨l, fs, G, ps, rfl, _⟩ := h
    rfl
  obtain ⟨l, fs, G, ps, rfl, hl, hR, sG, hz, hf, q⟩ := h
  refine ⟨_, pss_one (ps_ret (pe_lc (own := [("part", 1), ("depth", 2)]) (g := gTup K 2 (gCons (gName 1) (gCons (gName 2) gNil))) (tt := tTest (tOp rEq (tOp (rIxT K) (tVar 1) (tC (.int 0))) (tC (.str "name")))) (te := tOp (rIxT K) (tVar 1) (tC (.int 1))) rfl scNa.nd (pi_list (pv 0)) (blkOk_by (own := [("part", 1), ("depth", 2)]) (N := ["parts", "part", "depth"]) (sc := defScope sNmAm) (by decide +kernel))
        (fun _ _ _ _ _ => pg_tup rfl (pgs_cons (pg_name (i := 1) scNa.nd rfl (.inl rfl)) (pgs_cons (pg_name (i := 2) scNa.nd rfl (.inl rfl)) pgs_nil))) (fun _ _ _ _ _ => pts_one (pt_cmpR op_eq (pe_ix ix_tup (pv 1) pe_int (fun _ _ => rfl)) pe_str (nomark _))) (fun _ _ _ _ _ => pe_ix ix_tup (pv 1) pe_int (fun _ _ => rfl)))), ?_⟩
  refine ⟨_, rfl, l, rfl, ⟨_, SqL.of hl⟩, fun D nD => ?_⟩
  have hfl := hR.len
  refine lc_it (walk_list (xs := fs)) (fun i H2 => Same H H2 ∧ H2 D = some (.lst ((nmsOf (ps.take i)).map V.str))) ⟨same_new nD _, upd_same⟩ (fun i H2 _ z => SqL.of (z.1 _ _ hl)) ?_ ?_
  · rintro i y H2 _ hi ⟨s2, hD⟩ ⟨rfl, hy⟩
    obtain ⟨p, hp, ⟨t, x, rfl, hT, hx, _⟩⟩ := rows_get hR hy
    refine ⟨t, _, rfl, SqT.of (s2 _ _ hT), rfl, _, _, rfl, _, _, rfl, rfl, rfl, ?_⟩
    obtain ⟨w, r, ed, cs⟩ := frm_name (hf p (List.mem_of_getElem? hp))
    have e0 : nmsOf (ps.take (i + 1)) = nmsOf (ps.take i) ++ nameOf p.1 := by
      rw [List.take_add_one, hp, nms_app]
      show _ ++ nmsOf [p] = _
      unfold nmsOf
      rw [List.flatMap_singleton]
    rw [ed] at hx
    obtain ⟨ad, xs, rfl, hxs, hA⟩ := dq_tuple hx
    obtain ⟨x0, rs, rfl, g0, hA1⟩ := dqAll_cons hA
    obtain rfl := dq_str g0
    have hxs' := (sG.trans s2).seqT hxs
    refine ⟨_, rfl, ad, _, 0, _, rfl, rfl, hxs', atI_nat (j := 0) rfl, rfl, _, rfl, ?_⟩
    rcases cs with ⟨hw, x, rfl, en⟩ | ⟨hw, en⟩
    · obtain ⟨x1, rs, rfl, g1, hA2⟩ := dqAll_cons hA1
      obtain rfl := dq_str g1
      refine ite2 (fun _ => ?_) (fun z => absurd (show w1 w = true from hw) z)
      refine ⟨_, rfl, ad, _, 1, _, rfl, rfl, hxs', atI_nat (j := 1) rfl, _, hD, ?_, fun b o e => by rw [upd_ne (ne_of_none e nD)]; exact s2 _ _ e, ?_⟩
      · rw [List.length_map]
        exact Nat.lt_of_le_of_lt (Nat.le_trans (names_le _) (Nat.le_trans (List.length_take_le _ _) (by omega : i ≤ 3000))) (by decide)
      · rw [upd_same, e0, en, List.map_append]
        rfl
    · refine ite2 (fun z => absurd (show w1 w = true from z) (by rw [hw]; decide)) (fun _ => ?_)
      exact ⟨s2, by rw [e0, en, List.append_nil]; exact hD⟩
  · rintro H2 ⟨s2, hD⟩
    rw [hfl, List.take_length] at hD
    exact q D H2 s2 hD
theorem kd_form {d : PyData} (h : kdB m d = true) : fB m d = true := by
  unfold kdB at h
  simp only [Bool.and_eq_true] at h
  exact h.1
end
end Toy
set_option Elab.async false
set_option linter.all false
set_option maxRecDepth 100000
set_option maxHeartbeats 1000000
namespace L2
open PySem PySem.Spec PyProof.Rows
/-! ### repr of any drawn data -/
def rRepA (K : PySem.W.Frag) : List V → Hp → VK → Prop := fun xs H Q => ∃ (v : V) (d : PyData), xs = [v] ∧ Dq K H v d ∧ d.showable = true ∧ d.shown.length ≤ sizeLine ∧ d.depth ≤ 300 ∧ Q (.str d.shown) H
theorem call_repA {X : Cx} (hu : X.A.units + 400 < cLine) (hg : X.A.guards = some []) : CallR X (.builtin "repr") (rRepA X.K) := by
  intro pins s σ H xs us Q I r h
  obtain ⟨v, d, rfl, D, ok, hz, hdep, q⟩ := h
  cases r with
  | cons rx rr =>
    cases rr
    have ru := rx
    have fin : ∀ (h' : Heap) (u : Tok) (tk : Nat), (∀ b o, s.heap.get? b = some o → h'.get? b = some o) → EP X pins σ Q (.str d.shown u) { s with heap := h', toks := tk } := fun h' u tk k => ⟨.str _, H, I.kept (t' := tk) k, ⟨u, rfl⟩, q⟩
    obtain ⟨as, R⟩ := Dq.reads I _ _ _ D ru
    cases d with
    | none =>
      cases D
      cases rx
      have z := fin s.heap s.toks (s.toks + 1) (fun _ _ e => e)
      simp only [PyData.shown] at z
      exact PySem.P.repr_of_none z
    | bool b =>
      cases D
      cases rx
      have z := fin s.heap s.toks (s.toks + 1) (fun _ _ e => e)
      simp only [PyData.shown] at z
      exact PySem.P.repr_of_bool z
    | int i =>
      cases D
      obtain ⟨t, rfl⟩ := rx
      have z := fin s.heap s.toks (s.toks + 1) (fun _ _ e => e)
      simp only [PyData.shown] at z
      exact PySem.P.repr_of_int (by simpa [PyData.showable] using ok) z
    | str x =>
      cases D
      obtain ⟨t, rfl⟩ := rx
      have z := fin s.heap s.toks (s.toks + 1) (fun _ _ e => e)
      simp only [PyData.shown] at z hz
      exact PySem.P.repr_of_str z hz
    | list ds =>
      cases D with
      | @lst _ xs _ hs ha =>
        cases rx
        have zt : (listText (PyData.shownAll ds)).length ≤ sizeLine := by simpa only [PyData.shown] using hz
        simp only [PyData.shown] at fin
        obtain ⟨its, rv, ⟨o, n, ho, hc, _, hd⟩, _⟩ := I.list hs
        obtain ⟨bs, hb, hk⟩ := Dq.reprAll I ds _ its ha rv (by simpa [PyData.showable] using ok) fun t ht => Nat.le_trans (listText_mem_le ht) zt
        have off := not_mem_of_deeper R (show PyData.depthAll ds < (PyData.list ds).depth by simp only [PyData.depth]; omega) hb
        have dep : PyData.depthAll ds + 1 ≤ 300 := by simp only [PyData.depth] at hdep; omega
        refine call_repr_slot (by omega) ⟨o, ho, hc⟩ PySem.F.slot_list_repr.toG ?_
        cases its with
        | nil =>
          have e : PyData.shownAll ds = [] := List.eq_nil_of_length_eq_zero (by simpa using hk.length_eq)
          have z := fin s.heap s.toks (s.toks + 1) (fun _ _ e => e)
          rw [e, listText_nil] at z
          exact call_list_repr_empty ⟨o, ho, hc⟩ ho hd ⟨_, _, rfl, z⟩
        | cons x l =>
          exact call_list_reprK ho hc hd off (by simpa using hk.length_eq) (fun i y e => hk.item i y (by simpa using e)) hg (fun b _ => Clear.nil b) (by show X.A.units + 1 + _ < cLine; omega) (fun _ _ e => e) (fun h' u tk k => ⟨_, _, rfl, fin h' u tk k⟩) zt
    | tuple ds =>
      cases D with
      | @tup _ xs _ hs ha =>
        cases rx
        have zt : (tupleText (PyData.shownAll ds)).length ≤ sizeLine := by simpa only [PyData.shown] using hz
        simp only [PyData.shown] at fin
        obtain ⟨its, rv, ⟨o, ho, hc, n, hd⟩, _⟩ := I.tuple hs.seqT
        obtain ⟨bs, hb, hk⟩ := Dq.reprAll I ds _ its ha rv (by simpa [PyData.showable] using ok) fun t ht => Nat.le_trans (tupleText_mem_le ht) zt
        have off := not_mem_of_deeper R (show PyData.depthAll ds < (PyData.tuple ds).depth by simp only [PyData.depth]; omega) hb
        have dep : PyData.depthAll ds + 1 ≤ 300 := by simp only [PyData.depth] at hdep; omega
        refine call_repr_slot (by omega) ⟨o, ho, hc⟩ PySem.F.slot_tuple_repr ?_
        exact call_tuple_reprK ho hc hd off hk hg (fun b _ => Clear.nil b) (by show X.A.units + 1 + _ < cLine; omega) (fun _ _ e => e) (fun h' u tk k => ⟨_, _, rfl, fin h' u tk k⟩) zt
    | dict kvs =>
      cases D with
      | dic h =>
        cases rx
        obtain ⟨o, n, ho, hc, hd, hsys⟩ := dic_at I h
        simp only [PyData.shown, PyData.shownKv] at fin hz
        refine call_repr_slot (by omega) ⟨o, ho, hc⟩ PySem.F.slot_dict_repr ?_
        exact call_dict_reprK (as := []) (d := 0) ho hc hd hsys (by simp) (by simpa using ReprEntriesK.nil) hg (fun b _ => Clear.nil b) (by show X.A.units + 1 + _ < cLine; omega) (fun _ _ e => e) (fun h' u tk k => ⟨_, _, rfl, fin h' u tk k⟩) hz
/-! ### f(k = v): by keywords alone -/
structure KBo (K : PySem.W.Frag) (fd : FuncData) (ps : List Str) : Prop where
  to : ∀ (s : Shared) (ws : List Value), ws.length = ps.length → BindsTo s fd ⟨[], ps.zip ws⟩ (ps.zip ws)
theorem Fun.bindsK {K : PySem.W.Frag} {x qual : Str} {st : Stmt} {f : Addr} {fd : FuncData} {ps : List Str} (F : Fun K x qual st f fd)
    (h : ∀ (kV doc pm : Value) (an : Option Addr) (cdv ct : Value) (ws : List Value), ws.length = ps.length → bindArgs (PySem.W.fnOf x qual (defArgs st) (defBody st) (defScope st) .none kV doc pm an cdv ct) ⟨[], ps.zip ws⟩ = pure (ps.zip ws)) : KBo K fd ps := by
  obtain ⟨oc, od, kV, doc, pm, an, cdv, ct, osl, rfl, lk, hcd⟩ := F.ex
  exact ⟨fun s ws hl => BindsTo.of_eq (h kV doc pm an cdv ct ws hl)⟩
def tCallKo (sp : Sp) (tk : TA) : TE := fun σ H Q => tk σ H fun zs H2 => sp zs H2 Q E0
theorem pe_callKo {X : Cx} {k : Nat} {f : Addr} {fd : FuncData} {ps : List Str} {sp : Sp} {x : Str} {p pos : Pos} {kws : List Keyword} {tk : TA} (F : FnOk X.prog X.w X.K X.mg X.base CX0 k f fd ps sp) (hr : Room k X.A) (hg : Gl X x) (hm : X.mg x = some (.ref f)) (hk : PySem.W.keepIn X.K (.ref f) = true) (hb : KBo X.K fd ps)
    (hkw : PK X kws tk) (hall : (backToKw pos (keywordEach kws X.env)).all (·.1.isSome) = true := by rfl) (hks : (backToKw pos (keywordEach kws X.env)).filterMap (·.1) = ps := by rfl) (hdb : (x == ("__debug__" : Str)) = false := by decide)
    (hpl : ((backTo pos (starEach [] X.env)).any (·.1) || (backToKw pos (keywordEach kws X.env)).any (·.1.isNone)) = false := by rfl) :
    PE X (.Call (.Name x p) [] kws pos) (tCallKo sp tk) := by
  refine ⟨fun pins s σ H Q I h => ?_⟩
  refine wpAny_Call_Name_kw (ld_glob I hg hm ?_ hdb)
  refine PySem.W.callWith_KW0 (h₀ := X.base) I.ok.mod.kin hk hall ?_ hpl
  refine thn (hkw.run pos pins s σ H _ I h) fun ws s2 ⟨zs, H2, I2, rz, q2⟩ => ⟨I2.kIn, ?_⟩
  rw [hks]
  have hl : ws.length = ps.length := by rw [← rz.length]; exact F.len _ _ _ _ q2
  refine wpAny_call (codeAny_mono (F.run X.A X.stack s2 H2 ⟨[], ps.zip ws⟩ ws zs Q E0 hr I2.env0 (hb.to s2 ws hl) rz q2) fun r s' hq => ?_)
  cases r with
  | error e => exact (pass0 (X := X)) pins σ H2 s2 e s' I2 hq
  | ok fl =>
    cases fl with
    | ret u => exact I2.after hq
    | next => exact False.elim hq
    | brk => exact False.elim hq
    | cont => exact False.elim hq
end L2
set_option Elab.async false
set_option linter.all false
set_option maxRecDepth 100000
set_option maxHeartbeats 1000000
/-! t[::-1] of a tuple; text times number -/
namespace HT
open PySem PySem.Spec PyProof.Rows
section
variable {prog : Program} {w : World} {A : Around} {E : Value → Shared → Prop} {s : Shared}
theorem applied_back {sl : Addr} {vk : Value} {n : Nat} {Q : Int × Int × Nat → Shared → Prop} (hs : s.heap.IsSliceOf sl .none .none vk) (pk : IsPart vk (some (-1)))
    (h : Q ((n : Int) - 1, -1, n) s) : wpAny (model prog w) A (Builtin.Slice.sliceApplied (.ref sl) (pure (n : Int))) Q E s := by
  obtain ⟨os, hos, hcs, hds⟩ := id hs
  unfold Builtin.Slice.sliceApplied Builtin.Slice.sliceFields
  refine wpAny_bind (wpAny_bind (wpAny_field hos hds (x := .none) rfl (wpAny_bind (wpAny_field hos hds (x := .none) rfl (wpAny_bind (wpAny_field hos hds (x := vk) rfl (wpAny_pure ?_)))))))
  refine wpAny_bind (slicePart_ pk ?_)
  show wpAny _ _ (if ((-1 : Int) == 0) = true then _ else _) _ _ s
  rw [if_neg (by decide)]
  refine wpAny_bind (slicePart_none (wpAny_bind (slicePart_none (wpAny_bind (wpAny_pure ?_)))))
  have e : Builtin.Slice.sliceAdjust none none (-1) (n : Int) = ((n : Int) - 1, -1) := by
    unfold Builtin.Slice.sliceAdjust
    rfl
  have e2 : Builtin.Slice.slicePlaces ((n : Int) - 1) (-1) (-1) = n := by
    unfold Builtin.Slice.slicePlaces
    have h1 : ¬ ((-1 : Int) > 0) := by decide
    rw [if_neg h1]
    by_cases h : (n : Int) - 1 > -1
    · rw [if_pos h, show (- -1 : Int) = 1 by decide, Int.ediv_one]
      omega
    · rw [if_neg h]
      omega
  show wpAny _ _ (match Builtin.Slice.sliceAdjust none none (-1) (n : Int) with | (lo, hi) => pure (lo, (-1 : Int), Builtin.Slice.slicePlaces lo hi (-1))) _ _ s
  rw [e]
  show wpAny _ _ (pure ((n : Int) - 1, (-1 : Int), Builtin.Slice.slicePlaces ((n : Int) - 1) (-1) (-1))) _ _ s
  rw [e2]
  exact wpAny_pure h
theorem fm_map {α β : Type} {f : α → Option β} {g : α → β} : ∀ {l : List α}, (∀ k ∈ l, f k = some (g k)) → l.filterMap f = l.map g
  | [], _ => rfl
  | x :: l, h => by
    rw [List.filterMap_cons_some (h x List.mem_cons_self), List.map_cons, fm_map fun k hk => h k (List.mem_cons_of_mem _ hk)]
theorem pick_back (xs : Array Value) : ((List.range xs.size).filterMap fun (k : Nat) => xs[((xs.size : Int) - 1 + (k : Int) * (-1)).toNat]?).toArray = xs.toList.reverse.toArray := by
  have e : (List.range xs.size).filterMap (fun (k : Nat) => xs[((xs.size : Int) - 1 + (k : Int) * (-1)).toNat]?) = xs.toList.reverse := by
    apply List.ext_getElem?
    intro i
    have key : (List.range xs.size).filterMap (fun (k : Nat) => xs[((xs.size : Int) - 1 + (k : Int) * (-1)).toNat]?) = (List.range xs.size).map (fun k => xs.toList.reverse.getD k .none) := by
      apply fm_map
      intro k hk
      have hk := List.mem_range.mp hk
      have ei : ((xs.size : Int) - 1 + (k : Int) * (-1)).toNat = xs.size - 1 - k := by omega
      rw [ei]
      have h2 : xs.size - 1 - k < xs.size := by omega
      rw [Array.getElem?_eq_getElem h2]
      show _ = some (xs.toList.reverse.getD k .none)
      congr 1
      have h3 : k < xs.toList.reverse.length := by rw [List.length_reverse, Array.length_toList]; exact hk
      rw [List.getD_eq_getElem?_getD, List.getElem?_eq_getElem h3, Option.getD_some, List.getElem_reverse]
      simp [Array.length_toList]
    rw [key, List.getElem?_map]
    by_cases hi : i < xs.size
    · rw [List.getElem?_range hi]
      have h3 : i < xs.toList.reverse.length := by rw [List.length_reverse, Array.length_toList]; exact hi
      show some (xs.toList.reverse.getD i .none) = _
      rw [List.getD_eq_getElem?_getD, List.getElem?_eq_getElem h3]
      rfl
    · rw [List.getElem?_eq_none (by rw [List.length_range]; omega), List.getElem?_eq_none (by rw [List.length_reverse, Array.length_toList]; omega)]
      rfl
  rw [e]
theorem getItem_tuple_back {t sl : Addr} {items : Array Value} {vk : Value} {Q : Value → Shared → Prop} (ht : IsTup s.heap t items) (hs : s.heap.IsSliceOf sl .none .none vk) (pk : IsPart vk (some (-1)))
    (h : Q (.ref s.heap.objs.size) { s with heap := s.heap.push { cls := .type "tuple", data := .seq items.toList.reverse.toArray } })
    (hsz : items.size ≤ sizeLine) : wpAny (model prog w) A (getItem (.ref t) (.ref sl)) Q E s := by
  have room : sizeOk (.seq items.toList.reverse.toArray) := by
    show items.toList.reverse.toArray.size ≤ sizeLine
    rw [List.size_toArray, List.length_reverse, Array.length_toList]
    exact hsz
  obtain ⟨os, hos, hcs, hds⟩ := id hs
  have tyS : s.TypeIs (.ref sl) "slice" := ⟨os, hos, hcs⟩
  unfold getItem
  try with_reducible refine wpAny_holding ?_
  first | refine wpAny_bind (wpAny_pure ?_) | skip
  refine wpAny_bind (wpAny_sequenceKey ht.typeIs (by decide) (wpAny_bind (wpAny_callSpecial?_slot (name := Str.ofString "__getitem__") ht.typeIs PyProof.Rows.slot_tuple_getitem
    (wpAny_call_entry PyProof.Rows.slot_tuple_getitem ht.typeIs entry_tuple_getitem ?_ (args_tuple_getitem _ _)))))
  show wpAny _ _ (Builtin.Tuple.tupleItemsOf (.ref t) >>= _) _ _ s
  refine wpAny_bind (tupleItemsOf_ ht (wpAny_bind (wpAny_typeOf tyS ?_)))
  rw [if_pos (by decide)]
  refine wpAny_bind (applied_back hs pk ?_)
  have no : ¬ (((((items.size : Nat) : Int) - 1 == 0) && ((-1 : Int) == 1) && (items.size == items.size)) = true) := by
    intro q
    rw [Bool.and_eq_true, Bool.and_eq_true] at q
    exact absurd q.1.2 (by decide)
  show wpAny _ _ (if ((((items.size : Nat) : Int) - 1 == 0) && ((-1 : Int) == 1) && (items.size == items.size)) = true then _ else _) _ _ s
  rw [if_neg no, pick_back]
  first
    | exact wpAny_bind (m := Builtin.Tuple.tupleExact _) (wpAny_newObj_type (wpAny_pure ⟨_, rfl, wpAny_pure h⟩) room)
    | exact wpAny_bind (m := Builtin.Tuple.tupleExact _) (wpAny_newObj_type (wpAny_bind (wpAny_pure (wpAny_pure ⟨_, rfl, wpAny_pure h⟩))) room)
    | exact wpAny_bind (wpAny_bind (m := Builtin.Tuple.tupleExact _) (wpAny_newObj_type (wpAny_pure (wpAny_pure ⟨_, rfl, wpAny_pure h⟩)) room))
    | exact wpAny_bind (wpAny_bind (m := Builtin.Tuple.tupleExact _) (wpAny_newObj_type (wpAny_pure ⟨_, rfl, wpAny_pure h⟩) room))
end
end HT
namespace L2
open PySem PySem.Spec PyProof.Rows
def tRevT (K : PySem.W.Frag) (te : TE) : TE := fun σ H Q => te σ H fun x H1 => ∃ a xs, x = .ref a ∧ SqT K H1 a xs ∧ ∀ p, H1 p = none → Q (.ref p) (upd H1 p (.tup xs.reverse))
theorem pe_revT {X : Cx} {e : Expr} {te : TE} {k : Nat} {p1 p2 p3 pos : Pos} (he : PE X e te) : PE X (.Subscript e (.Slice none none (some (.UnaryOp .USub (.Constant (.int 1) k p1) p2)) p3) pos) (tRevT X.K te) := by
  refine ⟨fun pins s σ H Q I h => ?_⟩
  refine Subscript_ (thn (he.run pins s σ H _ I h) fun v s1 ⟨x, H1, I1, r1, a, xs, ex, hx, q⟩ => ?_)
  subst ex
  cases r1
  have stp : PO X (some (.UnaryOp .USub (.Constant (.int 1) k p1) p2)) (tPart (tUn (rU fun i => .int (-i)) (tC (.int 1)))) := po_some (pe_un un_neg pe_int)
  refine wpAny_Slice (thn (po_none.run pins s1 σ H1 (fun o H2 => o = none ∧ H2 = H1) I1 ⟨rfl, rfl⟩) fun vl s2 ⟨l, H2, I2, pl, el, e2⟩ => ?_)
  subst el e2
  refine thn (po_none.run pins s2 σ H2 (fun o H3 => o = none ∧ H3 = H2) I2 ⟨rfl, rfl⟩) fun vu s3 ⟨u, H3, I3, pu, eu, e3⟩ => ?_
  subst eu e3
  refine thn (stp.run pins s3 σ H3 (fun o H4 => o = some (-1) ∧ H4 = H3) I3 ⟨1, rfl, -1, rfl, rfl, rfl⟩) fun vs s4 ⟨o, H4, I4, ps, eo, e4⟩ => ?_
  subst eo e4
  have I5 : Inv X pins σ H4 { s4 with heap := s4.heap.push { cls := .type "slice", data := .fields #[vl, vu, vs] } } := I4.kept (t' := s4.toks) fun b ob z => Heap.get?_push_of_some _ z
  obtain ⟨its, r, ht, hz⟩ := I5.tuple hx
  have hlen := r.length
  cases pl
  cases pu
  show wpAny (model X.prog X.w) X.A (subscriptTail e (.Slice none none (some (.UnaryOp .USub (.Constant (.int 1) k p1) p2)) p3) (.ref a) (.ref s4.heap.objs.size)) (EP X pins σ Q) X.xe _
  refine tail_any (ops := [.ref a, .ref s4.heap.objs.size]) ht.typeIs PyProof.Rows.slot_tuple_getitem.lookup ?_ (by with_unfolding_all rfl)
  refine HT.getItem_tuple_back ht (Heap.IsSliceOf.new _ _ _ vs) ps ?_ (by rw [List.size_toArray]; omega)
  refine ⟨.ref _, _, I5.laid (t' := s4.toks) (o := .tup xs.reverse) (fun b ob z => Heap.get?_push_of_some _ z) (Nat.le_refl _) ?_, rfl, q _ (I5.hok.fresh (Nat.le_refl _))⟩
  exact ⟨by rw [List.length_reverse]; exact hz, _, r.reverse, ⟨_, Heap.get?_push_size _ rfl, rfl, 0, rfl⟩⟩
/-- a sign's text, so often -/
def rMulS : R2 := fun x y H Q => ∃ (c : Nat) (n : Int), x = .str ⟨#[c]⟩ ∧ y = .int n ∧ n ≤ 1000 ∧ -1000 ≤ n ∧ Q (.str ⟨(List.replicate n.toNat c).toArray⟩) H
theorem rep_fold (c : Nat) : ∀ (n : Nat) (a : Array Nat), (List.replicate n #[c]).foldl (· ++ ·) a = a ++ (List.replicate n c).toArray
  | 0, a => by simp
  | n + 1, a => by
    rw [List.replicate_succ, List.foldl_cons, rep_fold c n, List.replicate_succ]
    apply Array.toList_inj.mp
    simp
theorem op_mulS {X : Cx} : OpR X (binaryOp .Mult) rMulS := by
  intro pins s σ H x y v u Q I rx ry h
  obtain ⟨c, n, rfl, rfl, h1, h2, q⟩ := h
  obtain ⟨t, rfl⟩ := rx
  obtain ⟨t2, rfl⟩ := ry
  refine PySem.P.mul_str ?_ (fun _ _ => ?_) (fun _ _ => ?_) ?_
  · rw [decide_eq_false (by omega), decide_eq_false (by omega)]
    rfl
  · have e1 : ((⟨#[c]⟩ : Str).length : Int) = 1 := rfl
    rw [e1]
    intro z
    have h0 : 1 ≤ n := by omega
    have : n ≤ (2 ^ 63 - 1) / n * n + n := by
      have := Int.mul_ediv_add_emod (2 ^ 63 - 1) n
      have m0 := Int.emod_nonneg (2 ^ 63 - 1) (show n ≠ 0 by omega)
      have m1 := Int.emod_lt_of_pos (2 ^ 63 - 1) (show 0 < n by omega)
      have e3 : n * ((2 ^ 63 - 1) / n) = (2 ^ 63 - 1) / n * n := Int.mul_comm _ _
      omega
    have d0 : (2 ^ 63 - 1) / n ≤ 0 := by omega
    have e4 := Int.mul_ediv_add_emod (2 ^ 63 - 1) n
    have m1 := Int.emod_lt_of_pos (2 ^ 63 - 1) (show 0 < n by omega)
    have : n * ((2 ^ 63 - 1) / n) ≤ 0 := Int.mul_nonpos_of_nonneg_of_nonpos (by omega) d0
    omega
  · have : (⟨#[c]⟩ : Str).length * n.toNat ≤ 1000 := by
      show 1 * n.toNat ≤ 1000
      omega
    unfold Builtin.Str.tooLong
    exact decide_eq_false (by
      have : (1000 : Nat) ≤ sizeLine := by decide
      omega)
  · by_cases a : n < 1
    · rw [if_pos a]
      refine ⟨by decide, .str _, H, I.tok _, ⟨_, rfl⟩, ?_⟩
      have e : n.toNat = 0 := by omega
      rw [e] at q
      exact q
    · rw [if_neg a]
      by_cases b : (n == 1 || (⟨#[c]⟩ : Str).length == 0) = true
      · rw [if_pos b]
        have e : n = 1 := by
          rcases Bool.or_eq_true_iff.mp b with z | z
          · exact eq_of_beq z
          · cases z
        subst e
        exact ⟨.str _, H, I, ⟨_, rfl⟩, q⟩
      · rw [if_neg b]
        have ef : ((List.replicate n.toNat (⟨#[c]⟩ : Str).cps).foldl (· ++ ·) #[]) = (List.replicate n.toNat c).toArray := by
          show (List.replicate n.toNat #[c]).foldl (· ++ ·) #[] = _
          rw [rep_fold]
          simp
        rw [ef]
        refine ⟨?_, .str _, H, I.tok _, ⟨_, rfl⟩, q⟩
        show (List.replicate n.toNat c).toArray.size ≤ sizeLine
        rw [List.size_toArray, List.length_replicate]
        have : (1000 : Nat) ≤ sizeLine := by decide
        omega
end L2
set_option Elab.async false
set_option linter.all false
set_option maxRecDepth 100000
set_option maxHeartbeats 1000000
/-! tuples of which it is known that they have no dict of their own: dict(t), enumerate(t); str.rpartition -/
namespace PySem
open PySem.W PyProof.Rows
set_option maxHeartbeats 2000000 in
theorem meets_enumerate_newB1 {v : Value} {o : Obj} {H : Heap → Prop} (B : Begins v o H) :
    Meets (Builtin.«enumerate.__new__» ⟨[.type "enumerate", v], []⟩) (fun _ R s => H s.heap ∧
      R (.ok (.ret (.ref (s.heap.push o).objs.size))) { s with heap := (s.heap.push o).push { cls := .type "enumerate", data := .fields #[.none, .bool false, .ref s.heap.objs.size, rawInt 0, .none, .none] } }) :=
  .of_wp fun prog w A R s h => by
    obtain ⟨hp, g, d, tk, os⟩ := s; obtain ⟨h1, h⟩ := h
    have hsub := sub_enumerate
    have q1 : ∀ {A' : Around} {E : Value → Shared → Prop} {Q : Value → Shared → Prop}, Q (.ref hp.objs.size) ⟨hp.push o, g, d, tk, os⟩ → wpAny (model prog w) A' (pyIter v) Q E ⟨hp, g, d, tk, os⟩ :=
      fun q => B.iter prog w _ _ ⟨hp, g, d, tk, os⟩ _ h1 q
    wp_walk using q1
    refine wpAny_stack_any fun st => wpAny_pure ?_
    split
    · rename_i c _ _ _ _ _
      cases (c == Value.type "enumerate")
      · wp_walk using q1
        exact ⟨_, rfl, h⟩
      · wp_walk using q1
        exact ⟨_, rfl, h⟩
    · wp_walk using q1
      exact ⟨_, rfl, h⟩
theorem enum_begins1 {prog : Program} {w : World} {A : Around} {E : Value → Shared → Prop} {s : Shared} {v : Value} {o : Obj} {H : Heap → Prop} {Q : Value → Shared → Prop} (B : Begins v o H) (h1 : H s.heap)
    (h : ∀ h', IsEnum h' (s.heap.objs.size + 1) s.heap.objs.size 0 .none → h'.get? s.heap.objs.size = some o → h'.objs.size = s.heap.objs.size + 2 →
      (∀ b o, s.heap.get? b = some o → h'.get? b = some o) → Q (.ref (s.heap.objs.size + 1)) { s with heap := h' }) :
    wpAny (model prog w) A (call (.type "enumerate") [v]) Q E s := by
  refine callType_new F.called_enumerate (by decide) (F.typeCall_enumerate_1 _) (F.newCall_enumerate_1 _) (fun obj => F.args_object_init_2 obj _) F.entry_enumerate_new
    (meets_enumerate_newB1 B) ⟨h1, ?_⟩
  have hz : (s.heap.push o).objs.size = s.heap.objs.size + 1 := Heap.size_push ..
  show _ ∧ _
  rw [hz]
  have he : IsEnum ((s.heap.push o).push { cls := .type "enumerate", data := .fields #[.none, .bool false, .ref s.heap.objs.size, rawInt 0, .none, .none] }) (s.heap.objs.size + 1) s.heap.objs.size 0 .none := by
    have := Heap.get?_push_size (s.heap.push o) (o := { cls := .type "enumerate", data := .fields #[.none, .bool false, .ref s.heap.objs.size, rawInt 0, .none, .none] }) rfl
    rw [hz] at this; exact this
  refine ⟨⟨_, he, rfl⟩, h _ he (Heap.get?_push_of_some _ (Heap.get?_push_size _ B.free)) (by rw [Heap.size_push, hz]) fun b o x => Heap.get?_push_of_some _ (Heap.get?_push_of_some _ x)⟩
theorem wpAny_pyNext_enum_endT {prog : Program} {w : World} {A : Around} {E : Value → Shared → Prop} {s : Shared} {e it l : Addr} {i : Nat} {items : Array Value} {old : Value} {Q : Option Value → Shared → Prop} (hh : A.handled = none)
    (he : IsEnum s.heap e it i old) (hit : s.heap.IsTupleIter it l i) (hl : s.heap.IsTuple l items) (hx : items[i]? = none)
    (hQ : ∀ h', Heap.ExtBut it s.heap h' → Q none { s with heap := h' }) : wpAny (model prog w) A (pyNext (.ref e)) Q E s := by
  have hT : s.TypeIs (.ref e) "enumerate" := ⟨_, he, rfl⟩
  unfold pyNext
  refine wpAny_bind (wpAny_attempt (wpAny_callSpecial?_slot (name := Str.ofString "__next__") hT F.slot_enumerate_next
    (wpAny_call_entry F.slot_enumerate_next hT F.entry_enumerate_next ?_ (F.args_enumerate_next_1 _))))
  show wpAny _ _ (field (.ref e) 2 >>= _) _ _ _
  refine wpAny_bind (wpAny_field he rfl (x := .ref it) rfl ?_)
  refine wpAny_bind (wpAny_nextOf_tuple_end hh hit hl hx fun h' x he' hx' => ?_)
  obtain ⟨o, ho, hc⟩ := hx'
  refine wpAny_bind (wpAny_isInstance (T := "StopIteration") (b := true) ⟨o, ho, hc⟩ isSubtype_stop ?_)
  exact wpAny_pure (hQ _ he')
end PySem
namespace L2
open PySem PySem.Spec PyProof.Rows
section
variable {X : Cx}
/-- t[::-1] -/
def tRevN (K : PySem.W.Frag) (te : TE) : TE := fun σ H Q => te σ H fun x H1 => ∃ a xs, x = .ref a ∧ SqT K H1 a xs ∧ ∀ p o, H1 p = none → o.dict = none → Q (.ref p) (upd H1 p (.frz o (.tup xs.reverse)))
theorem pe_revN {e : Expr} {te : TE} {k : Nat} {p1 p2 p3 pos : Pos} (he : PE X e te) : PE X (.Subscript e (.Slice none none (some (.UnaryOp .USub (.Constant (.int 1) k p1) p2)) p3) pos) (tRevN X.K te) := by
  refine ⟨fun pins s σ H Q I h => ?_⟩
  refine Subscript_ (thn (he.run pins s σ H _ I h) fun v s1 ⟨x, H1, I1, r1, a, xs, ex, hx, q⟩ => ?_)
  subst ex
  cases r1
  have stp : PO X (some (.UnaryOp .USub (.Constant (.int 1) k p1) p2)) (tPart (tUn (rU fun i => .int (-i)) (tC (.int 1)))) := po_some (pe_un un_neg pe_int)
  refine wpAny_Slice (thn (po_none.run pins s1 σ H1 (fun o H2 => o = none ∧ H2 = H1) I1 ⟨rfl, rfl⟩) fun vl s2 ⟨l, H2, I2, pl, el, e2⟩ => ?_)
  subst el e2
  refine thn (po_none.run pins s2 σ H2 (fun o H3 => o = none ∧ H3 = H2) I2 ⟨rfl, rfl⟩) fun vu s3 ⟨u, H3, I3, pu, eu, e3⟩ => ?_
  subst eu e3
  refine thn (stp.run pins s3 σ H3 (fun o H4 => o = some (-1) ∧ H4 = H3) I3 ⟨1, rfl, -1, rfl, rfl, rfl⟩) fun vs s4 ⟨o, H4, I4, ps, eo, e4⟩ => ?_
  subst eo e4
  have I5 : Inv X pins σ H4 { s4 with heap := s4.heap.push { cls := .type "slice", data := .fields #[vl, vu, vs] } } := I4.kept (t' := s4.toks) fun b ob z => Heap.get?_push_of_some _ z
  obtain ⟨its, r, ht, hz⟩ := I5.tuple hx
  have hlen := r.length
  cases pl
  cases pu
  show wpAny (model X.prog X.w) X.A (subscriptTail e (.Slice none none (some (.UnaryOp .USub (.Constant (.int 1) k p1) p2)) p3) (.ref a) (.ref s4.heap.objs.size)) (EP X pins σ Q) X.xe _
  refine tail_any (ops := [.ref a, .ref s4.heap.objs.size]) ht.typeIs PyProof.Rows.slot_tuple_getitem.lookup ?_ (by with_unfolding_all rfl)
  refine HT.getItem_tuple_back ht (Heap.IsSliceOf.new _ _ _ vs) ps ?_ (by rw [List.size_toArray]; omega)
  exact ⟨.ref _, _, I5.laid (t' := s4.toks) (fun b ob z => Heap.get?_push_of_some _ z) (Nat.le_refl _) (new_frz r.reverse (by rw [List.length_reverse]; exact hz) (Heap.get?_push_size _ rfl) _ _), rfl, q _ _ (I5.hok.fresh (Nat.le_refl _)) rfl⟩

/-! ### dict(t) of a tuple of pairs -/
theorem pairs_ofN {pins : List (Addr × Obj)} {σ : St} {H : Hp} {s : Shared} (I : Inv X pins σ H s) : ∀ {ps : List Addr} {kvs : List (Key × V)}, Paired (fun p kv => SqT X.K H p [kV kv.1, kv.2]) ps kvs →
    ∃ (prs : List (Key × Value)) (vs : List (Value × Value)), KV kvs prs ∧ prs.length = ps.length ∧ vs.length = ps.length ∧ (∀ (j : Nat) (k v : Value), vs[j]? = some (k, v) → ∃ b : Addr, ps[j]? = some b ∧ IsTup s.heap b #[k, v]) ∧
      ∀ (j : Nat) (k v : Value), vs[j]? = some (k, v) → ∃ key : Key, prs[j]? = some (key, v) ∧ (mixKind X.prog X.w).is key k = true
  | _, _, .nil => ⟨[], [], .nil, rfl, rfl, fun j k v e => by simp at e, fun j k v e => by simp at e⟩
  | _, _, .cons (a := p) (b := kv) h t => by
    obtain ⟨its, rv, ht, _⟩ := I.tuple h
    obtain ⟨u, y, ei, ru, ry⟩ := vals2 rv
    subst ei
    obtain ⟨prs, vs, r, hl, hv, h1, h2⟩ := pairs_ofN I t
    refine ⟨(kv.1, y) :: prs, (u, y) :: vs, .cons ⟨rfl, ry⟩ r, by simp [hl], by simp [hv], fun j k v e => ?_, fun j k v e => ?_⟩
    · cases j with
      | zero =>
        have e' : (u, y) = (k, v) := Option.some.inj e
        cases e'
        exact ⟨p, rfl, ht⟩
      | succ j =>
        obtain ⟨b, e1, e2⟩ := h1 j k v (by simpa using e)
        exact ⟨b, by simpa using e1, e2⟩
    · cases j with
      | zero =>
        have e' : (u, y) = (k, v) := Option.some.inj e
        cases e'
        exact ⟨kv.1, rfl, kV_is (P := X.prog) (w := X.w) ru⟩
      | succ j =>
        obtain ⟨key, e1, e2⟩ := h2 j k v (by simpa using e)
        exact ⟨key, by simpa using e1, e2⟩
theorem call_dictT (hcalm : X.calm = true) : CallR X (.type "dict") (fun xs H Q => ∃ (a : Addr) (ps : List Addr) (kvs : List (Key × V)), xs = [.ref a] ∧ SqP X.K H a (ps.map V.ref) ∧ Paired (fun p kv => SqT X.K H p [kV kv.1, kv.2]) ps kvs ∧
    ∀ p, H p = none → Q (.ref p) (upd H p (.dK (mergeK [] kvs)))) := by
  intro pins s σ H xs us Q I r q
  obtain ⟨a, ps, kvs, ex, hq, hp, q⟩ := q
  subst ex
  obtain ⟨u, eu, rx⟩ := vals1 r
  subst eu
  cases rx
  obtain ⟨o, its, n, rv, ho, hc, hd, hdat, hz⟩ := I.plain hq
  have ei := refs_at rv
  subst ei
  rw [List.length_map] at hz
  obtain ⟨prs, vs, rel, hl, hv, h1, h2⟩ := pairs_ofN I hp
  refine PySem.call_dict_pairs (knd := mixKind X.prog X.w) (kvs := prs) (PairArg.tuple a (ps.map Value.ref).toArray (fun j => ps.getD j 0) vs) (I.ok.hd hcalm)
    ⟨⟨o, n, ho, hc, hd, hdat⟩, by simp [hv], fun j k v e => ?_⟩ ⟨by rw [hl, hv], fun i k v e => ?_⟩ (by rw [hv]; exact hz) fun h' tk hd' kp => ?_
  · obtain ⟨b, e1, e2⟩ := h1 j k v e
    have e3 : ps.getD j 0 = b := by rw [List.getD_eq_getElem?_getD, e1]; rfl
    exact ⟨by simp [e1], by show PairAt s.heap (ps.getD j 0) k v; rw [e3]; exact .inl e2⟩
  · exact h2 i k v e
  · have hm : (s.heap.objs.size == sysModules) = false := beq_eq_false_iff_ne.mpr (Nat.ne_of_gt I.big)
    have hlen : (mergeK [] kvs).length ≤ sizeLine := by
      refine Nat.le_trans (length_mergeK kvs []) ?_
      rw [List.length_nil, Nat.zero_add, rel.length, hl]
      exact hz
    exact ⟨.ref s.heap.objs.size, upd H s.heap.objs.size (.dK (mergeK [] kvs)), I.laid (t' := tk) (fun b o e => kp b o (by simp) e) (Nat.le_refl _) (show ObjOk X.prog X.w _ _ _ (.dK (mergeK [] kvs)) from ⟨hlen, hm, merged [] prs, KV.merge rel .nil, hd'⟩), rfl, q _ (I.hok.fresh (Nat.le_refl _))⟩
/-! ### str.rpartition -/
theorem mt_rpartition : MtR X "str.rpartition" (fun x xs H Q => ∃ a b, x = .str a ∧ xs = [.str b] ∧ (b.length == 0) = false ∧ a.length ≤ sizeLine ∧
    ∀ p, H p = none → Q (.ref p) (upd H p (.tup [.str (Txt.rpartition a b).1, .str (Txt.rpartition a b).2.1, .str (Txt.rpartition a b).2.2]))) := by
  intro pins s σ H x xs v us Q I rx rs h
  obtain ⟨a, b, rfl, rfl, hb, hz, h⟩ := h
  obtain ⟨t, rfl⟩ := rx
  cases rs with
  | cons r1 rs =>
    cases rs
    obtain ⟨u, rfl⟩ := r1
    refine call_meets F.slot_str_rpartition (typeIs_str _ _ _) F.entry_str_rpartition (F.args_str_rpartition_2 _ _) (meets_str_rpartition a b t u hb hz) ?_
    unfold Txt.rpartition at h
    revert h
    cases Builtin.Str.lastOccurrence a b 0 a.length with
    | none => intro h; exact laid_parts I h
    | some i => intro h; exact laid_parts I h
theorem pe_rpartition {o e : Expr} {to te : TE} {apos pos : Pos} (ho : PE X o to) (he : PE X e te) (hs : starEach [e] X.env = [(false, eval e X.env)] := by rfl) (hbase : attributeBase o "rpartition" X.env (eval o X.env) = eval o X.env := by rfl) (hline : (apos.endLine == pos.line) = true := by rfl) :
    PE X (.Call (.Attribute o "rpartition" apos) [e] [] pos) (tM1 (fun x xs H Q => ∃ a b, x = .str a ∧ xs = [.str b] ∧ (b.length == 0) = false ∧ a.length ≤ sizeLine ∧
      ∀ p, H p = none → Q (.ref p) (upd H p (.tup [.str (Txt.rpartition a b).1, .str (Txt.rpartition a b).2.1, .str (Txt.rpartition a b).2.2]))) to te) :=
  pe_m1 F.slot_str_rpartition F.type_str_rpartition mt_rpartition ho he hs hbase hline
end
/-! ### for at, .. in enumerate(a tuple) -/
/-- the tuple at a, each item in a new pair -/
def IteT (K : PySem.W.Frag) (a : Addr) : It :=
  ⟨fun i H => ∃ (xs : List V) (x : V), SqT K H a xs ∧ xs[i]? = some x, fun i H v H' => ∃ T x, v = .ref T ∧ H T = none ∧ H' = upd H T (.tup [.int (i : Nat), x]) ∧ ∀ xs, SqT K H a xs → xs[i]? = some x, fun i H => ∃ xs : List V, SqT K H a xs ∧ xs.length ≤ i⟩
theorem turn_enumT {P : Program} {w : World} {K : PySem.W.Frag} {elts : List Expr} {kk : Nat} {tpos : Pos} (a e it : Addr) :
    Turn P w K (.Tuple elts kk tpos) (IteT K a) [e, it] e (fun i h => (∃ old, IsEnum h e it ((i : Nat) : Int) old) ∧ h.IsTupleIter it a i ∧ e ≠ it ∧ a ≠ it ∧ a ≠ e) where
  mem := by simp
  obj := fun i h st b hb => by
    obtain ⟨⟨old, he⟩, ⟨o, ho, hc, hd⟩, _⟩ := st
    have e' : b = e ∨ b = it := by simpa using hb
    rcases e' with z | z
    · rw [z]; exact ⟨_, he, fun v q => nomatch q⟩
    · rw [z]; exact ⟨o, ho, fun v q => by rw [hd] at q; cases q⟩
  keep := fun i h h' st k => let ⟨⟨old, he⟩, hi, hne⟩ := st; ⟨⟨old, k e (by simp) _ he⟩, hi.at fun o q => k it (by simp) o q, hne⟩
  item := by
    intro X hP hw hK hc i pins s σ H E I hf st hg
    subst hP hw hK
    obtain ⟨⟨old, he⟩, hit, hne, ha1, ha2⟩ := st
    obtain ⟨xs, x, hq, hx⟩ := hg
    obtain ⟨its, rv, p, hz⟩ := I.tuple hq
    obtain ⟨u, hu, ru⟩ := rv.get hx
    have hel : e < s.heap.objs.size := Heap.lt_size he
    have hil : it < s.heap.objs.size := by obtain ⟨_, q, _⟩ := hit; exact Heap.lt_size q
    have hil2 : i < its.toArray.size := by
      have := (List.getElem?_eq_some_iff.mp hu).1
      simpa using this
    refine wpAny_pyNext_enum_itemD (fp := [it, a]) (P := fun i v => its.toArray[i]? = some v) (St := fun i h => h.IsTupleIter it a i ∧ h.IsTuple a its.toArray) (Draws.tuple (show X.A.in1.handled = none from I.ok.hd hc) it a ha1 its.toArray) he ⟨hit, show s.heap.IsTuple a its.toArray from p⟩ hil2 hne (by simp [hne, Ne.symm ha2]) fun x' h' tk hx' ho hst' hT hsz hk => ?_
    have ex : x' = u := by
      have : its.toArray[i]? = some u := by simpa using hu
      exact Option.some.inj (hx'.symm.trans this)
    subst ex
    refine ⟨_, rfl, wpAny_letOwnedTupleGo_enum (s := { s with heap := h', toks := tk + 1 }) ho fun h'' he' sb => ?_⟩
    have hT2 : h''.get? s.heap.objs.size = some { cls := .type "tuple", data := .seq #[.int i tk, x'] } := (sb.2 _ (Nat.ne_of_gt hel)).trans hT
    have new : ObjOk X.prog X.w (upd H s.heap.objs.size (.tup [.int (i : Nat), x])) h'' s.heap.objs.size (.tup [.int (i : Nat), x]) :=
      ⟨by show 2 ≤ sizeLine; decide, [.int i tk, x'], .cons ⟨_, rfl⟩ (.cons ru .nil), ⟨_, hT2, rfl, _, rfl⟩⟩
    have I1 : Inv X pins σ (upd H s.heap.objs.size (.tup [.int (i : Nat), x])) { s with heap := h'', toks := tk + 1 } :=
      I.turnedNew (ch := [e, it]) (fun b ob hb q => (sb.2 b (fun z => hb (by simp [z]))).trans (hk b ob (fun z => hb (by simp [z])) (fun z => hb (by simp [z])) q)) hf (Nat.le_refl _) new
    refine ⟨.ref s.heap.objs.size, _, I1, rfl, ⟨_, x, rfl, I.hok.fresh (Nat.le_refl _), rfl, fun ys hy => by rw [I.tuple_inj hy hq]; exact hx⟩, ⟨⟨x', ?_⟩, hst'.1.at fun o q => (sb.2 it (Ne.symm hne)).trans q, hne, ha1, ha2⟩, fun b hb => ?_⟩
    · have e1 : ((i + 1 : Nat) : Int) = (i : Int) + 1 := by omega
      rw [e1]; exact he'
    · have hb' : b < s.heap.objs.size := by
        have e' : b = e ∨ b = it := by simpa using hb
        rcases e' with z | z
        · rw [z]; exact hel
        · rw [z]; exact hil
      rw [upd_ne (Nat.ne_of_lt hb')]
      exact (hf b hb).1
  done := by
    intro X hP hw hK hc i pins s σ H E I hf st hg
    subst hP hw hK
    obtain ⟨⟨old, he⟩, hit, hne, ha1, ha2⟩ := st
    obtain ⟨xs, hq, hx⟩ := hg
    obtain ⟨its, rv, p, hz⟩ := I.tuple hq
    obtain ⟨f0, f1, f2, f3, f4, f5⟩ := hf it (by simp)
    have hl := rv.length
    exact wpAny_pyNext_enum_endT (I.ok.hd hc) he hit (show s.heap.IsTuple a its.toArray from p) (by simp; omega) fun h' eb => ⟨rfl, I.turned (t' := s.toks) (fun b o hb e => eb b o hb e) f0 f1 f3 f4 f5⟩
  self := fun A i s Q E st h => let ⟨⟨_, he⟩, _⟩ := st; wpAny_pyIter_enum he h
def iEnumT (K : PySem.W.Frag) (ta : TA) : TI := fun σ H R => ta σ H fun vs H1 => ∃ a xs, vs = [.ref a] ∧ SqT K H1 a xs ∧ R (IteT K a) H1
theorem pi_enumT {X : Cx} {e : Expr} {ta : TA} {p pos tpos : Pos} {elts : List Expr} {kk : Nat} (hg : Gl X "enumerate") (hm : X.mg "enumerate" = none) (ha : PA X [e] ta) (hs : starEach [e] X.env = [(false, eval e X.env)] := by rfl) :
    PI X (.Tuple elts kk tpos) (.Call (.Name "enumerate" p) [e] [] pos) (iEnumT X.K ta) := by
  refine ⟨fun pins s σ H R I h => ?_⟩
  refine Call_ (ld_blt I hg hm boot_enumerate (PyProof.Rows.callWith_type1 (thn (ha.run pos pins s σ H _ I h) fun us s1 ⟨vs, H1, I1, r1, q1⟩ => ?_) hs rfl))
  obtain ⟨a, xs, ex, hq, q⟩ := q1
  subst ex
  cases r1 with
  | cons r rr =>
    cases rr
    cases r
    obtain ⟨its, rv, p', hz⟩ := I1.tuple hq
    have p2 : s1.heap.IsTuple a its.toArray := p'
    have la : a < s1.heap.objs.size := by obtain ⟨_, g, _⟩ := p2; exact Heap.lt_size g
    refine enum_begins1 (begins_tuple a its.toArray) p2 fun h' he hit hsz hk => wpAny_pyIter_enum he ?_
    have I2 : Inv X pins σ H1 { s1 with heap := h' } := I1.kept (t' := s1.toks) hk
    refine ⟨s1.heap.objs.size + 1, [s1.heap.objs.size + 1, s1.heap.objs.size], _, _, H1, rfl, I2, turn_enumT a (s1.heap.objs.size + 1) s1.heap.objs.size, ⟨⟨.none, he⟩, ⟨_, hit, rfl, rfl⟩, Nat.succ_ne_self _, Nat.ne_of_lt la, Nat.ne_of_lt (Nat.lt_succ_of_lt la)⟩, fun b hb => ?_, q⟩
    have e' : b = s1.heap.objs.size + 1 ∨ b = s1.heap.objs.size := by simpa using hb
    have hle : s1.heap.objs.size ≤ b := by
      rcases e' with z | z
      · rw [z]; exact Nat.le_add_right _ _
      · rw [z]; exact Nat.le_refl _
    exact I1.fpOk hle (I1.hok.fresh hle)
end L2
set_option Elab.async false
set_option linter.all false
set_option maxRecDepth 100000
set_option maxHeartbeats 1000000
namespace Toy
open PySem L2
/-! ### drawn data: its texts and numbers, its weight, its depth -/
mutual
def gdB (j : Nat) : PyData → Bool
  | .str x => PyData.strOk x && decide (x.length ≤ 100 + j)
  | .int i => decide (i.natAbs ≤ 10 ^ 30 + j)
  | .list ds => gdA j ds
  | .tuple ds => gdA j ds
  | .dict kvs => kvs.isEmpty
  | .none => true
  | .bool _ => true
def gdA (j : Nat) : List PyData → Bool
  | [] => true
  | d :: ds => gdB j d && gdA j ds
end
theorem gdA_iff {j : Nat} : ∀ {ds : List PyData}, gdA j ds = true ↔ ∀ d ∈ ds, gdB j d = true
  | [] => ⟨fun _ _ h => (nomatch h), fun _ => rfl⟩
  | d :: ds => by
    show (gdB j d && gdA j ds) = true ↔ _
    rw [Bool.and_eq_true, gdA_iff (ds := ds)]
    constructor
    · rintro ⟨a, b⟩ x h
      rcases List.mem_cons.mp h with rfl | h
      · exact a
      · exact b x h
    · intro h
      exact ⟨h d List.mem_cons_self, fun x m => h x (List.mem_cons_of_mem _ m)⟩
mutual
theorem gdB_up {j k : Nat} (h : j ≤ k) : ∀ d : PyData, gdB j d = true → gdB k d = true
  | .str x, g => by
    have g' : (PyData.strOk x && decide (x.length ≤ 100 + j)) = true := g
    show (PyData.strOk x && decide (x.length ≤ 100 + k)) = true
    rw [Bool.and_eq_true, decide_eq_true_eq] at g' ⊢
    exact ⟨g'.1, by omega⟩
  | .int i, g => by
    have g' : decide (i.natAbs ≤ 10 ^ 30 + j) = true := g
    show decide (i.natAbs ≤ 10 ^ 30 + k) = true
    rw [decide_eq_true_eq] at g' ⊢
    omega
  | .list ds, g => gdA_up h ds g
  | .tuple ds, g => gdA_up h ds g
  | .dict kvs, g => g
  | .none, _ => rfl
  | .bool _, _ => rfl
theorem gdA_up {j k : Nat} (h : j ≤ k) : ∀ ds : List PyData, gdA j ds = true → gdA k ds = true
  | [], _ => rfl
  | d :: ds, g => by
    have g' : (gdB j d && gdA j ds) = true := g
    rw [Bool.and_eq_true] at g'
    show (gdB k d && gdA k ds) = true
    rw [Bool.and_eq_true]
    exact ⟨gdB_up h d g'.1, gdA_up h ds g'.2⟩
end
mutual
theorem gdB_txt {j : Nat} (h : j ≤ 1000) : ∀ d : PyData, gdB j d = true → txtB d = true
  | .str x, g => by
    have g' : (PyData.strOk x && decide (x.length ≤ 100 + j)) = true := g
    show (PyData.strOk x && decide (x.length ≤ 2000)) = true
    rw [Bool.and_eq_true, decide_eq_true_eq] at g' ⊢
    exact ⟨g'.1, by omega⟩
  | .int i, g => rfl
  | .list ds, g => gdA_txt h ds g
  | .tuple ds, g => gdA_txt h ds g
  | .dict kvs, g => rfl
  | .none, _ => rfl
  | .bool _, _ => rfl
theorem gdA_txt {j : Nat} (h : j ≤ 1000) : ∀ ds : List PyData, gdA j ds = true → txtAll ds = true
  | [], _ => rfl
  | d :: ds, g => by
    have g' : (gdB j d && gdA j ds) = true := g
    rw [Bool.and_eq_true] at g'
    show (txtB d && txtAll ds) = true
    rw [Bool.and_eq_true]
    exact ⟨gdB_txt h d g'.1, gdA_txt h ds g'.2⟩
end
theorem int_log {i : Int} {j : Nat} (h : i.natAbs ≤ 10 ^ 30 + j) (hj : j ≤ 1000) : i.natAbs.log2 < 1920 := by
  by_cases h0 : i.natAbs = 0
  · rw [h0]; decide
  · have : i.natAbs < 2 ^ 101 := Nat.lt_of_le_of_lt (Nat.le_trans h (Nat.add_le_add_left hj _)) (by decide)
    have := (Nat.log2_lt h0).mpr this
    omega
mutual
theorem gdB_show {j : Nat} (h : j ≤ 1000) : ∀ d : PyData, gdB j d = true → d.showable = true
  | .str x, g => by simp only [PyData.showable]
  | .int i, g => by
    have g' : decide (i.natAbs ≤ 10 ^ 30 + j) = true := g
    rw [decide_eq_true_eq] at g'
    simp only [PyData.showable]
    exact decide_eq_true (int_log g' h)
  | .list ds, g => by simp only [PyData.showable]; exact gdA_show h ds g
  | .tuple ds, g => by simp only [PyData.showable]; exact gdA_show h ds g
  | .dict [], g => by simp only [PyData.showable, PyData.showableKv]
  | .dict (_ :: _), g => by cases g
  | .none, _ => by simp only [PyData.showable]
  | .bool _, _ => by simp only [PyData.showable]
theorem gdA_show {j : Nat} (h : j ≤ 1000) : ∀ ds : List PyData, gdA j ds = true → PyData.showableAll ds = true
  | [], _ => by simp only [PyData.showableAll]
  | d :: ds, g => by
    have g' : (gdB j d && gdA j ds) = true := g
    rw [Bool.and_eq_true] at g'
    simp only [PyData.showableAll, Bool.and_eq_true]
    exact ⟨gdB_show h d g'.1, gdA_show h ds g'.2⟩
end
theorem int_short {i : Int} {j : Nat} (h : i.natAbs ≤ 10 ^ 30 + j) (hj : j ≤ 1000) : (PyData.shown (.int i)).length ≤ 33 := by
  simp only [PyData.shown]
  have := int_text_length_le10 (a := i) (k := 31) (by decide) (Nat.lt_of_le_of_lt (Nat.le_trans h (Nat.add_le_add_left hj _)) (by decide))
  show (Str.ofString (toString i)).length ≤ 33
  rw [ofString_length]
  omega
mutual
theorem gdB_short {j : Nat} (h : j ≤ 1000) : ∀ d : PyData, gdB j d = true → d.leavesShort 33 = true
  | .str x, g => by
    have g' : (PyData.strOk x && decide (x.length ≤ 100 + j)) = true := g
    rw [Bool.and_eq_true] at g'
    simp only [PyData.leavesShort]
    exact List.all_eq_true.mpr fun c m => decide_eq_true (Nat.lt_trans (ok_code g'.1 m) (by decide))
  | .int i, g => by
    have g' : decide (i.natAbs ≤ 10 ^ 30 + j) = true := g
    rw [decide_eq_true_eq] at g'
    simp only [PyData.leavesShort]
    exact decide_eq_true (int_short g' h)
  | .list ds, g => by simp only [PyData.leavesShort]; exact gdA_short h ds g
  | .tuple ds, g => by simp only [PyData.leavesShort]; exact gdA_short h ds g
  | .dict [], g => by simp only [PyData.leavesShort, PyData.leavesShortKv]
  | .dict (_ :: _), g => by cases g
  | .none, _ => by simp only [PyData.leavesShort]
  | .bool _, _ => by simp only [PyData.leavesShort]
theorem gdA_short {j : Nat} (h : j ≤ 1000) : ∀ ds : List PyData, gdA j ds = true → PyData.leavesShortAll 33 ds = true
  | [], _ => by simp only [PyData.leavesShortAll]
  | d :: ds, g => by
    have g' : (gdB j d && gdA j ds) = true := g
    rw [Bool.and_eq_true] at g'
    simp only [PyData.leavesShortAll, Bool.and_eq_true]
    exact ⟨gdB_short h d g'.1, gdA_short h ds g'.2⟩
end
theorem gd_shown {j : Nat} {d : PyData} (h : j ≤ 1000) (g : gdB j d = true) : d.shown.length ≤ 35 * d.weight + 33 := PyData.shown_le 33 (by decide) d (gdB_short h d g)
/-- drawn data -/
structure Gd (d : PyData) (j w k : Nat) : Prop where
  g : gdB j d = true
  w : d.weight ≤ w
  k : d.depth ≤ k
theorem Gd.up {d : PyData} {j w k j' w' k' : Nat} (h : Gd d j w k) (a : j ≤ j') (b : w ≤ w') (c : k ≤ k') : Gd d j' w' k' := ⟨gdB_up a d h.g, Nat.le_trans h.w b, Nat.le_trans h.k c⟩
/-! weights of rows -/
theorem wA_append (a b : List PyData) : PyData.weightAll (a ++ b) = PyData.weightAll a + PyData.weightAll b := by
  induction a with
  | nil => simp only [List.nil_append, PyData.weightAll]; omega
  | cons x r ih => simp only [List.cons_append, PyData.weightAll, ih]; omega
theorem wA_reverse (a : List PyData) : PyData.weightAll a.reverse = PyData.weightAll a := by
  induction a with
  | nil => rfl
  | cons x r ih =>
    rw [List.reverse_cons, wA_append, ih]
    simp only [PyData.weightAll]
    omega
theorem wA_mem {d : PyData} : ∀ {l : List PyData}, d ∈ l → d.weight + 1 ≤ PyData.weightAll l
  | x :: r, h => by
    simp only [PyData.weightAll]
    rcases List.mem_cons.mp h with rfl | h
    · omega
    · have := wA_mem h; omega
theorem dA_append (a b : List PyData) : PyData.depthAll (a ++ b) = max (PyData.depthAll a) (PyData.depthAll b) := by
  induction a with
  | nil => simp only [List.nil_append, PyData.depthAll]; omega
  | cons x r ih => simp only [List.cons_append, PyData.depthAll, ih]; omega
theorem dA_le {k : Nat} : ∀ {l : List PyData}, (∀ d ∈ l, d.depth ≤ k) → PyData.depthAll l ≤ k
  | [], _ => by simp only [PyData.depthAll]; exact Nat.zero_le _
  | x :: r, h => by
    have a := h x List.mem_cons_self
    have b := dA_le (l := r) fun y hy => h y (List.mem_cons_of_mem _ hy)
    simp only [PyData.depthAll]
    omega
theorem dA_mem {d : PyData} : ∀ {l : List PyData}, d ∈ l → d.depth ≤ PyData.depthAll l
  | x :: r, h => by
    simp only [PyData.depthAll]
    rcases List.mem_cons.mp h with rfl | h
    · omega
    · have := dA_mem h; omega
/-- how many parts a thing of any form has -/
theorem ms_weight : ∀ (n : Nat) (d : PyData), (ms n d).2.1 ≤ d.weight + 1
  | 0, _ => Nat.le_add_left 1 _
  | n + 1, d => by
    show (match kids d with | some (a, b) => two (ms n a) (ms n b) | none => (1, 1, nameOf d)).2.1 ≤ _
    cases hk : kids d with
    | none => exact Nat.le_add_left 1 _
    | some p =>
      obtain ⟨a, b⟩ := p
      have ha := ms_weight n a
      have hb := ms_weight n b
      show (ms n a).2.1 + (ms n b).2.1 + 1 ≤ d.weight + 1
      unfold kids at hk
      split at hk
      · cases hk
        simp only [PyData.weight, PyData.weightAll]
        omega
      · cases hk
/-! ### where drawn data lies: G, a part of the heap that is never written -/
structure Stt (wl : Addr) (G H : Hp) : Prop where
  sub : Same G H
  nw : G wl = none
  well : WellAt H wl
structure Gr (wl : Addr) (G H G' H' : Hp) : Prop where
  gg : Same G G'
  gh : Same G' H'
  gn : ∀ b, G b = none → H b ≠ none → G' b = none
  well : WellAt H' wl
  but : But wl H H'
theorem well_ne {H : Hp} {wl : Addr} (w : WellAt H wl) : H wl ≠ none := by
  obtain ⟨_, _, _, z⟩ := w
  rw [z]
  exact fun z => nomatch z
theorem Gr.stt {wl : Addr} {G H G' H' : Hp} (g : Gr wl G H G' H') (s : Stt wl G H) : Stt wl G' H' := ⟨g.gh, g.gn wl s.nw (well_ne s.well), g.well⟩
theorem Gr.trans {wl : Addr} {G H G1 H1 G2 H2 : Hp} (a : Gr wl G H G1 H1) (b : Gr wl G1 H1 G2 H2) : Gr wl G H G2 H2 :=
  ⟨a.gg.trans b.gg, b.gh, fun c h1 h2 => b.gn c (a.gn c h1 h2) (fun z => h2 (a.but.free a.well z)), b.well, a.but.trans b.but⟩
theorem Gr.stay {wl : Addr} {G H H' : Hp} (s : Stt wl G H) (w : WellAt H' wl) (e : But wl H H') : Gr wl G H G H' :=
  ⟨Same.refl G, fun b o h => e b o (fun z => by rw [z, s.nw] at h; cases h) (s.sub b o h), fun _ h _ => h, w, e⟩
theorem Gr.refl {wl : Addr} {G H : Hp} (s : Stt wl G H) : Gr wl G H G H := .stay s s.well (But.refl H)
theorem Gr.same {wl : Addr} {G H H' : Hp} (s : Stt wl G H) (e : Same H H') : Gr wl G H G H' := .stay s (by
  obtain ⟨a, b, c, h⟩ := s.well
  exact ⟨a, b, c, e _ _ h⟩) (.of e)
/-- a new object of data -/
theorem Gr.new {wl p : Addr} {G H : Hp} (s : Stt wl G H) (hp : H p = none) (o : HO) : Gr wl G H (upd G p o) (upd H p o) := by
  have gp : G p = none := s.sub.free hp
  refine ⟨same_new gp o, fun b u h => ?_, fun b h1 h2 => ?_, ?_, But.new hp o⟩
  · by_cases e : b = p
    · subst e
      rw [upd_same] at h ⊢
      exact h
    · rw [upd_ne e] at h ⊢
      exact s.sub b u h
  · rw [upd_ne (fun e => h2 (by rw [e]; exact hp))]
    exact h1
  · obtain ⟨a, b, c, h⟩ := s.well
    exact ⟨a, b, c, same_new hp o _ _ h⟩
/-- what is new joins G -/
def join (G N : Hp) : Hp := fun b => match G b with | some o => some o | none => N b
theorem join_of {G N : Hp} {b : Addr} (h : G b = none) : join G N b = N b := by unfold join; rw [h]
theorem Gr.join {wl : Addr} {G H H' : Hp} (s : Stt wl G H) (w : WellAt H' wl) (e : But wl H H') : Gr wl G H (join G (newer H H')) H' := by
  have g0 := Gr.stay s w e
  refine ⟨fun b o h => by unfold Toy.join; rw [h], fun b o h => ?_, fun b h1 h2 => ?_, w, e⟩
  · cases q : G b with
    | some u =>
      unfold Toy.join at h
      rw [q] at h
      cases h
      exact g0.gh b o q
    | none =>
      rw [join_of q] at h
      exact newer_all b o h
  · rw [join_of h1]
    unfold newer
    cases q : H b with
    | none => exact absurd q h2
    | some u => rfl
theorem join_new {G H H' : Hp} (s : Same G H) : Same (newer H H') (Toy.join G (newer H H')) := fun b o h => by
  have q : G b = none := by
    cases z : G b with
    | none => rfl
    | some u =>
      unfold newer at h
      rw [s b u z] at h
      cases h
  rw [join_of q]
  exact h
/-- data that stays -/
theorem Gr.dq {K : PySem.W.Frag} {wl : Addr} {G H G' H' : Hp} {v : V} {d : PyData} (g : Gr wl G H G' H') (h : Dq K G v d) : Dq K G' v d := Dq.mono g.gg _ _ h
theorem Gr.lst {wl l : Addr} {G H G' H' : Hp} {o : HO} (g : Gr wl G H G' H') (n : l ≠ wl) (h : H l = some o) : H' l = some o := g.but l o n h
theorem Gr.off {wl l : Addr} {G H G' H' : Hp} (g : Gr wl G H G' H') (h : G l = none) (h2 : H l ≠ none) : G' l = none := g.gn l h h2
/-- a list of one's own changes: the data stays -/
theorem Gr.own {wl l : Addr} {G H : Hp} {o : HO} (s : Stt wl G H) (n : l ≠ wl) (h : G l = none) (o : HO) : Stt wl G (upd H l o) := ⟨fun b u e => by rw [upd_ne (fun z => by rw [z, h] at e; cases e)]; exact s.sub b u e, s.nw, by
  obtain ⟨a, b, c, e⟩ := s.well
  exact ⟨a, b, c, by rw [upd_ne (Ne.symm n)]; exact e⟩⟩
end Toy
set_option Elab.async false
set_option linter.all false
set_option maxRecDepth 100000
set_option maxHeartbeats 2000000
namespace Toy
open PySem L2
abbrev sWrit : Stmt := top 61
/-- pick a sign of a text -/
def spPickS : Sp := fun vs H Q _ => ∃ (wl : Addr) (x : Str), vs = [.ref wl, .str x] ∧ WellAt H wl ∧ 1 ≤ x.length ∧ x.length ≤ 1000 ∧
  ∀ (c : Nat) (H' : Hp), c ∈ x.cps.toList → WellAt H' wl → But wl H H' → Q (.str ⟨#[c]⟩) H'
/-- pick of a list -/
def spPickL (K : PySem.W.Frag) : Sp := fun vs H Q _ => ∃ (wl t : Addr) (xs : List V), vs = [.ref wl, .ref t] ∧ WellAt H wl ∧ SqL K H t xs ∧ t ≠ wl ∧ 1 ≤ xs.length ∧ xs.length < 1073741824 ∧
  ∀ (v : V) (H' : Hp), v ∈ xs → WellAt H' wl → But wl H H' → Q v H'
def txtOk (x : Str) (n : Nat) : Prop := PyData.strOk x = true ∧ x.length ≤ n
/-- a text drawn from the well -/
def spTxt (n : Nat) : Sp := fun vs H Q _ => ∃ (wl : Addr), vs = [.ref wl] ∧ WellAt H wl ∧ ∀ (x : Str) (H' : Hp), txtOk x n → WellAt H' wl → But wl H H' → Q (.str x) H'
structure Nr (mg : Str → Option Value) : Prop where
  range : mg "range" = none
theorem strOk_app {a b : Str} (ha : PyData.strOk a = true) (hb : PyData.strOk b = true) : PyData.strOk (a ++ b) = true := by
  unfold PyData.strOk at ha hb ⊢
  rw [← Array.all_toList] at ha hb ⊢
  rw [app_cps, List.all_append, ha, hb]
  rfl
theorem txt_app {a b : Str} {m n : Nat} (ha : txtOk a m) (hb : txtOk b n) : txtOk (a ++ b) (m + n) := ⟨strOk_app ha.1 hb.1, by rw [strLen_append]; have := ha.2; have := hb.2; omega⟩
theorem txt_up {a : Str} {m n : Nat} (ha : txtOk a m) (h : m ≤ n) : txtOk a n := ⟨ha.1, Nat.le_trans ha.2 h⟩
theorem txt_one {x : Str} {c : Nat} (hx : PyData.strOk x = true) (h : c ∈ x.cps.toList) : txtOk ⟨#[c]⟩ 1 := ⟨one_ok (ok_code hx h), Nat.le_refl 1⟩
section
variable {P : Program} {w : World} {K : PySem.W.Frag} {mg : Str → Option Value} {base : Heap}
theorem ok_pickS {f g : Addr} {fd gd : FuncData} (F : Fun K "_law_pick" "_law_pick" sPick f fd) (T : Nm mg) (D : Gv P w K mg base 1 "_law_draw" g gd ["well", "many"] spDraw) : FnOk P w K mg base CX0 2 f fd ["well", "some"] spPickS := by
  refine F.ok scP (fun vs H Q E h => ?_) (fun cdv A outer s H vs Q E hr h => ?_)
  · obtain ⟨wl, x, rfl, _⟩ := h
    rfl
  obtain ⟨wl, x, rfl, hw, h1, h2, q⟩ := h
  refine ⟨_, pss_one (ps_ret (pe_ix ix_str (pv 1) (pe_call D.ok hr rfl D.m D.k D.b .nil pass0 (pa_cons (pv 0) (pa_cons (pe_callB call_len_str rfl T.len PySem.boot_len (pa_cons (pv 1) pa_nil)) pa_nil))) (fun _ _ => rfl))), ?_⟩
  have sz : x.length ≤ sizeLine := Nat.le_trans h2 (by decide)
  refine ⟨_, rfl, _, rfl, _, rfl, _, rfl, sz, wl, _, rfl, by omega, by omega, hw, fun i H' hi0 hi1 hw' hb => ?_⟩
  have eL : x.cps.toList.length = x.length := Array.length_toList
  have lt : i.toNat < x.cps.toList.length := by omega
  have e : i = ((i.toNat : Nat) : Int) := by omega
  have z := atI_nat (xs := x.cps.toList) (j := i.toNat) (v := x.cps.toList[i.toNat]) (List.getElem?_eq_getElem lt)
  rw [← e] at z
  exact ⟨x, i, _, rfl, rfl, sz, z, q _ H' (List.getElem_mem lt) hw' hb⟩
theorem ok_pickL {f g : Addr} {fd gd : FuncData} (F : Fun K "_law_pick" "_law_pick" sPick f fd) (T : Nm mg) (D : Gv P w K mg base 1 "_law_draw" g gd ["well", "many"] spDraw) : FnOk P w K mg base CX0 2 f fd ["well", "some"] (spPickL K) := by
  refine F.ok scP (fun vs H Q E h => ?_) (fun cdv A outer s H vs Q E hr h => ?_)
  · obtain ⟨wl, t, xs, rfl, _⟩ := h
    rfl
  obtain ⟨wl, t, xs, rfl, hw, ht, nw, h1, h2, q⟩ := h
  refine ⟨_, pss_one (ps_ret (pe_ix ix_list (pv 1) (pe_call D.ok hr rfl D.m D.k D.b .nil pass0 (pa_cons (pv 0) (pa_cons (pe_callB call_len_seq rfl T.len PySem.boot_len (pa_cons (pv 1) pa_nil)) pa_nil))) (fun _ _ => rfl))), ?_⟩
  refine ⟨_, rfl, _, rfl, _, rfl, t, _, rfl, .inl ht, wl, _, rfl, by omega, by omega, hw, fun i H' hi0 hi1 hw' hb => ?_⟩
  have ht' : SqL K H' t xs := by
    rcases ht with (z | ⟨o, z⟩) | z
    · exact .inl (.inl (hb t _ nw z))
    · exact .inl (.inr ⟨o, hb t _ nw z⟩)
    · exact .inr z
  have lt : i.toNat < xs.length := by omega
  have e : i = ((i.toNat : Nat) : Int) := by omega
  have z := atI_nat (xs := xs) (j := i.toNat) (v := xs[i.toNat]) (List.getElem?_eq_getElem lt)
  rw [← e] at z
  exact ⟨t, xs, i, xs[i.toNat], rfl, rfl, ht', z, q _ H' (List.getElem_mem lt) hw' hb⟩
theorem scWr : FnScope ["well", "made", "turn"] ["well"] (defScope sWrit) := ⟨rfl, rfl, rfl, by decide +kernel, rfl, by decide +kernel, by decide +kernel⟩
theorem well_new {H : Hp} {wl p : Addr} (w : WellAt H wl) (hp : H p = none) (o : HO) : WellAt (upd H p o) wl := by
  obtain ⟨a, b, c, h⟩ := w
  exact ⟨a, b, c, same_new hp o _ _ h⟩
theorem well_same {H H' : Hp} {wl : Addr} (w : WellAt H wl) (e : Same H H') : WellAt H' wl := by
  obtain ⟨a, b, c, h⟩ := w
  exact ⟨a, b, c, e _ _ h⟩
def lWr : List Str := ["Row", "Tree", "R", "Rowa", "Ro", "X1", "Y", "Rows"]
theorem lWr_ok : ∀ x ∈ lWr, txtOk x 8 := by
  have h : lWr.all (fun x => PyData.strOk x && decide (x.length ≤ 8)) = true := by decide +kernel
  intro x m
  have := List.all_eq_true.mp h x m
  rw [Bool.and_eq_true, decide_eq_true_eq] at this
  exact this
theorem strs_of {l : List Str} {v : V} (h : v ∈ l.map V.str) : ∃ x, x ∈ l ∧ v = .str x := by
  obtain ⟨x, m, e⟩ := List.mem_map.mp h
  exact ⟨x, m, e.symm⟩
theorem ints_of {l : List Int} {v : V} (h : v ∈ l.map V.int) : ∃ x, x ∈ l ∧ v = .int x := by
  obtain ⟨x, m, e⟩ := List.mem_map.mp h
  exact ⟨x, m, e.symm⟩
theorem ok_writ {f gD gP : Addr} {fd dD dP : FuncData} (F : Fun K "_law_written" "_law_written" sWrit f fd) (R : Nr mg) (D : Gv P w K mg base 1 "_law_draw" gD dD ["well", "many"] spDraw) (PT' : Gv P w K mg base 2 "_law_pick" gP dP ["well", "some"] (spPick K)) (PS' : FnOk P w K mg base CX0 2 gP dP ["well", "some"] spPickS) : FnOk P w K mg base CX0 3 f fd ["well"] (spTxt 8) := by
  refine F.ok scWr (fun vs H Q E h => ?_) (fun cdv A outer s H vs Q E hr h => ?_)
  · obtain ⟨wl, rfl, _⟩ := h
    rfl
  obtain ⟨wl, rfl, hw, q⟩ := h
  have hr1 : Room 1 (A.deeper _) := hr.mono (by omega)
  refine ⟨_, pss_cons (ps_if (pt_cmpR op_eq (pe_call D.ok hr1 rfl D.m D.k D.b .nil pass0 (pa_cons (pv 0) (pa_cons pe_int pa_nil))) pe_int (nomark _))
      (pss_one (ps_ret (pe_call PT'.ok hr rfl PT'.m PT'.k PT'.b .nil pass0 (pa_cons (pv 0) (pa_cons (pe_tup (pa_cons pe_str (pa_cons pe_str (pa_cons pe_str (pa_cons pe_str (pa_cons pe_str (pa_cons pe_str (pa_cons pe_str (pa_cons pe_str pa_nil))))))))) pa_nil))))) pss_nil)
    (pss_cons (ps_set (i := 1) scWr.nd rfl (.inl rfl) (pe_call PS' hr rfl PT'.m PT'.k PT'.b .nil pass0 (pa_cons (pv 0) (pa_cons pe_str pa_nil))))
    (pss_cons (ps_for PassesOwn.never rfl (pi_range1 (by rfl) R.range (pa_cons (pe_call PT'.ok hr rfl PT'.m PT'.k PT'.b .nil pass0 (pa_cons (pv 0) (pa_cons (pe_tup (pa_cons pe_int (pa_cons pe_int (pa_cons pe_int (pa_cons pe_int (pa_cons pe_int (pa_cons pe_int (pa_cons pe_int pa_nil)))))))) pa_nil))) pa_nil)) (pg_name (i := 2) scWr.nd rfl (.inl rfl))
      (pss_one (ps_set (i := 1) scWr.nd rfl (.inl rfl) (pe_op op_add_str (pv 1) (pe_call PS' hr rfl PT'.m PT'.k PT'.b .nil pass0 (pa_cons (pv 0) (pa_cons pe_str pa_nil)))))))
    (pss_one (ps_ret (pv 1))))), ?_⟩
  have z3 : ∀ {k : Nat}, k ≤ 20 → k ≤ sizeLine := fun h => Nat.le_trans h (by decide)
  refine ⟨_, rfl, wl, 2, rfl, by decide, by decide, hw, fun d0 H1 _ _ w1 e1 => ⟨rfl, _, rfl, ?_⟩⟩
  refine ite2 (fun _ => ?_) (fun _ => ?_)
  · refine ⟨_, rfl, z3 (by show 8 ≤ 20; decide), fun t ht => ?_⟩
    refine ⟨wl, t, lWr.map V.str, rfl, well_new w1 ht _, SqT.of upd_same, by decide, by decide, fun v H2 hv w2 e2 => ?_⟩
    obtain ⟨x, hx, rfl⟩ := strs_of hv
    exact q x H2 (lWr_ok x hx) w2 ((e1.trans (.new ht _)).trans e2)
  · refine ⟨_, rfl, wl, CAPS, rfl, w1, by decide, by decide, fun c H2 hc w2 e2 => ?_⟩
    have t2 : txtOk ⟨#[c]⟩ 1 := txt_one (by decide +kernel) hc
    refine ⟨_, rfl, z3 (by show 7 ≤ 20; decide), fun t ht => ?_⟩
    refine ⟨wl, t, ([0, 0, 1, 2, 3, 6, 7] : List Int).map V.int, rfl, well_new w2 ht _, SqT.of upd_same, by decide, by decide, fun v H3 hv w3 e3 => ?_⟩
    obtain ⟨n, hn, rfl⟩ := ints_of hv
    have hn' : 0 ≤ n ∧ n ≤ 7 := by
      simp only [List.mem_cons, List.not_mem_nil, or_false] at hn
      omega
    refine ⟨n, rfl, by omega, by omega, ?_⟩
    have e13 : But wl H H3 := ((e1.trans e2).trans (.new ht _)).trans e3
    refine for_range (lo := 0) (n := n.toNat) (fun i σ H' => ∃ (x : Str) (c0 : Option V), σ = [some (.ref wl), some (.str x), c0] ∧ txtOk x (1 + i) ∧ WellAt H' wl ∧ But wl H3 H') ⟨_, none, rfl, t2, w3, But.refl H3⟩ ?_ ?_
    · rintro i σ H4 hi ⟨x, c0, rfl, tx, w4, e4⟩
      refine ⟨_, rfl, _, rfl, wl, SMALLS, rfl, w4, by decide, by decide, fun c5 H5 hc5 w5 e5 => ?_⟩
      have t5 : txtOk ⟨#[c5]⟩ 1 := txt_one (by decide +kernel) hc5
      refine ⟨x, _, rfl, rfl, ?_, _, _, rfl, ?_, w5, e4.trans e5⟩
      · have := tx.2
        have := t5.2
        exact z3 (by omega)
      · exact txt_up (txt_app tx t5) (by omega)
    · rintro σ H4 ⟨x, c0, rfl, tx, w4, e4⟩
      exact ⟨_, rfl, q x H4 (txt_up tx (by omega)) w4 (e13.trans e4)⟩
end
end Toy
set_option Elab.async false
set_option linter.all false
set_option maxRecDepth 100000
set_option maxHeartbeats 2000000
namespace Toy
open PySem L2
/-! no _law_near_name here -/
abbrev absent_law_near_name : Nat := 0 -- abbrev sNear : Stmt := top 37
theorem cut_list (x : Str) (lo hi : Option Int) : (cutS x lo hi).cps.toList = (x.cps.toList.drop (HT.sIx x.length 0 lo)).take (HT.sIx x.length x.length hi - HT.sIx x.length 0 lo) := by
  unfold cutS
  rfl
theorem len_list (x : Str) : x.length = x.cps.toList.length := Array.length_toList.symm
theorem cut_ok {x : Str} (h : PyData.strOk x = true) (lo hi : Option Int) : PyData.strOk (cutS x lo hi) = true := by
  unfold PyData.strOk
  rw [← Array.all_toList]
  refine List.all_eq_true.mpr fun c m => decide_eq_true (ok_code h ?_)
  rw [cut_list] at m
  exact List.mem_of_mem_drop (List.mem_of_mem_take m)
theorem cut_to (x : Str) (i : Nat) : (cutS x none (some (i : Int))).length ≤ i ∧ (cutS x none (some (i : Int))).length ≤ x.length := by
  rw [len_list, cut_list, HT.sIx_none, HT.sIx_nat, List.length_take, List.length_drop, ← len_list]
  omega
theorem cut_from (x : Str) (i : Nat) : (cutS x (some (i : Int)) none).length ≤ x.length - i := by
  rw [len_list, cut_list, HT.sIx_none, HT.sIx_nat, List.length_take, List.length_drop, ← len_list]
  omega
theorem ticks_ok {n : Nat} {m : Nat} (h : n ≤ m) : txtOk ⟨(List.replicate n 39).toArray⟩ m := by
  refine ⟨?_, ?_⟩
  · unfold PyData.strOk
    rw [← Array.all_toList]
    refine List.all_eq_true.mpr fun c hc => decide_eq_true ?_
    have : c ∈ List.replicate n 39 := by simpa using hc
    rw [List.eq_of_mem_replicate this]
    decide
  · show (List.replicate n 39).toArray.size ≤ m
    rw [List.size_toArray, List.length_replicate]
    exact h
def spNear : Sp := fun vs H Q _ => ∃ (wl : Addr) (x : Str) (m : Nat), vs = [.ref wl, .str x] ∧ WellAt H wl ∧ txtOk x m ∧ 52 ≤ m ∧ m ≤ 80 ∧ ∀ (y : Str) (H' : Hp), txtOk y (m + 9) → WellAt H' wl → But wl H H' → Q (.str y) H'
structure Nmx (mg : Str → Option Value) : Prop where
  max : mg "max" = none
theorem quo_one : (V.str "'") = .str ⟨#[39]⟩ := by
  have : ("'" : Str) = ⟨#[39]⟩ := by decide +kernel
  rw [← this]
section
variable {P : Program} {w : World} {K : PySem.W.Frag} {mg : Str → Option Value} {base : Heap}
end
end Toy
set_option Elab.async false
set_option linter.all false
set_option maxRecDepth 100000
set_option maxHeartbeats 1000000
namespace Toy
open PySem L2
/-! ### kinds by holes, over the data alone -/
inductive Ho where
  | th
  | nm (y : Str)
def hoD : Ho → PyData
  | .th => .tuple [.str "thing"]
  | .nm y => .tuple [.str "name", .str y]
def hoT : Ho → Str
  | .th => ""
  | .nm y => y
def calD (x : Str) (h : Ho) : Str := x ++ quo ++ hoT h
def holD : Ho → PyData
  | .th => .tuple [.str "unit"]
  | .nm y => .tuple [.str "either", .tuple [.str "unit"], .tuple [.str "name", .str (calD y (.nm y))]]
def wE (w : Str) : Bool := decide (V.str w = V.str "either")
def nmX : PyData → Str
  | .str x => x
  | _ => ""
/-- the kind by the hole -/
def kmd : Nat → PyData → Ho → PyData
  | 0, _, _ => .tuple [.str "none"]
  | n + 1, d, h => if PyData.eqv d (hoD h) = true then holD h else
    match d with
    | .tuple [_, x] => .tuple [.str "name", .str (calD (nmX x) h)]
    | .tuple [w, a, b] => if wE (nmX w) = true then .tuple [.str "either", kmd n a h, kmd n b h] else .tuple [.str "either", .tuple [.str "pair", kmd n a h, b], .tuple [.str "pair", a, kmd n b h]]
    | _ => .tuple [.str "none"]
/-! ### texts and tuples alone -/
mutual
def stB : PyData → Bool
  | .str x => PyData.strOk x
  | .tuple ds => stA ds
  | _ => false
def stA : List PyData → Bool
  | [] => true
  | d :: ds => stB d && stA ds
end
mutual
theorem stB_lay : ∀ d : PyData, stB d = true → d.canLay0 = true
  | .str x, h => h
  | .tuple ds, h => stA_lay ds h
  | .none, h => nomatch h
  | .bool _, h => nomatch h
  | .int _, h => nomatch h
  | .list _, h => nomatch h
  | .dict _, h => nomatch h
theorem stA_lay : ∀ ds : List PyData, stA ds = true → PyData.canLayAll0 ds = true
  | [], _ => rfl
  | d :: ds, h => by
    have h' : (stB d && stA ds) = true := h
    rw [Bool.and_eq_true] at h'
    show (d.canLay0 && PyData.canLayAll0 ds) = true
    rw [stB_lay d h'.1, stA_lay ds h'.2]
    rfl
end
mutual
theorem Dq.dp {K : PySem.W.Frag} {H : Hp} : ∀ (d : PyData) (v : V), stB d = true → Dq K H v d → Dp K H v d
  | .str x, _, _, .str _ => .str x
  | .tuple ds, _, h, .tup hs ha => .tup hs.seqT (DqAll.dp ds _ h ha)
  | .none, _, h, _ => nomatch h
  | .bool _, _, h, _ => nomatch h
  | .int _, _, h, _ => nomatch h
  | .list _, _, h, _ => nomatch h
  | .dict _, _, h, _ => nomatch h
theorem DqAll.dp {K : PySem.W.Frag} {H : Hp} : ∀ (ds : List PyData) (vs : List V), stA ds = true → DqAll K H vs ds → DpAll K H vs ds
  | [], _, _, .nil => .nil
  | d :: ds, _, h, .cons r t => by
    have h' : (stB d && stA ds) = true := h
    rw [Bool.and_eq_true] at h'
    exact .cons (Dq.dp d _ h'.1 r) (DqAll.dp ds _ h'.2 t)
end
mutual
theorem eqv_st : ∀ a b : PyData, stB a = true → stB b = true → (PyData.eqv a b = true ↔ a = b)
  | .str x, .str y, _, _ => by
    show (x == y) = true ↔ _
    rw [beq_iff_eq]
    exact ⟨fun h => by rw [h], fun h => by injection h⟩
  | .tuple xs, .tuple ys, h, h2 => by
    show PyData.eqvAll xs ys = true ↔ _
    rw [eqvA_st xs ys h h2]
    exact ⟨fun h => by rw [h], fun h => by injection h⟩
  | .str x, .tuple ys, _, _ => ⟨fun h => (nomatch h), fun h => (nomatch h)⟩
  | .tuple xs, .str y, _, _ => ⟨fun h => (nomatch h), fun h => (nomatch h)⟩
  | .none, _, h, _ => nomatch h
  | .bool _, _, h, _ => nomatch h
  | .int _, _, h, _ => nomatch h
  | .list _, _, h, _ => nomatch h
  | .dict _, _, h, _ => nomatch h
  | .str _, .none, _, h => nomatch h
  | .str _, .bool _, _, h => nomatch h
  | .str _, .int _, _, h => nomatch h
  | .str _, .list _, _, h => nomatch h
  | .str _, .dict _, _, h => nomatch h
  | .tuple _, .none, _, h => nomatch h
  | .tuple _, .bool _, _, h => nomatch h
  | .tuple _, .int _, _, h => nomatch h
  | .tuple _, .list _, _, h => nomatch h
  | .tuple _, .dict _, _, h => nomatch h
theorem eqvA_st : ∀ a b : List PyData, stA a = true → stA b = true → (PyData.eqvAll a b = true ↔ a = b)
  | [], [], _, _ => ⟨fun _ => rfl, fun _ => rfl⟩
  | [], _ :: _, _, _ => ⟨fun h => (nomatch h), fun h => (nomatch h)⟩
  | _ :: _, [], _, _ => ⟨fun h => (nomatch h), fun h => (nomatch h)⟩
  | x :: xs, y :: ys, h, h2 => by
    have h' : (stB x && stA xs) = true := h
    have h2' : (stB y && stA ys) = true := h2
    rw [Bool.and_eq_true] at h' h2'
    show (PyData.eqv x y && PyData.eqvAll xs ys) = true ↔ _
    rw [Bool.and_eq_true, eqv_st x y h'.1 h2'.1, eqvA_st xs ys h'.2 h2'.2]
    exact ⟨fun ⟨a, b⟩ => by rw [a, b], fun h => by injection h with a b; exact ⟨a, b⟩⟩
end
/-- what is formed as a kind -/
theorem fB_cases {n : Nat} {d : PyData} (h : fB n d = true) : (∃ w, d = .tuple [.str w] ∧ w3 w = true) ∨ (∃ w x, d = .tuple [.str w, .str x] ∧ w1 w = true ∧ nmB (.str x) = true) ∨
    ∃ (m : Nat) (w : Str) (a b : PyData), n = m + 1 ∧ d = .tuple [.str w, a, b] ∧ w2 w = true ∧ fB m a = true ∧ fB m b = true := by
  cases n with
  | zero => cases h
  | succ n =>
    cases d with
    | tuple ds =>
      rcases ds with _ | ⟨d0, r⟩
      · cases h
      · cases d0 with
        | str w =>
          rcases r with _ | ⟨x, _ | ⟨y, _ | ⟨z, r⟩⟩⟩
          · rw [fB_one] at h
            exact .inl ⟨w, rfl, h⟩
          · rw [fB_nam, Bool.and_eq_true] at h
            cases x with
            | str x => exact .inr (.inl ⟨w, x, rfl, h.1, h.2⟩)
            | _ => cases h.2
          · rw [fB_two, Bool.and_eq_true, Bool.and_eq_true] at h
            exact .inr (.inr ⟨n, w, x, y, rfl, rfl, h.1, h.2.1, h.2.2⟩)
          · have e : inner (.tuple (.str w :: x :: y :: z :: r)) = none := rfl
            rw [fB_no e] at h
            cases h
        | _ =>
          rw [fB_no rfl] at h
          cases h
    | _ =>
      rw [fB_no rfl] at h
      cases h
theorem fB_st : ∀ (n : Nat) (d : PyData), fB n d = true → txtB d = true → stB d = true
  | 0, _, h, _ => nomatch h
  | n + 1, d, h, t => by
    rcases fB_cases h with ⟨w, rfl, _⟩ | ⟨w, x, rfl, _, _⟩ | ⟨m, w, a, b, e, rfl, _, ha, hb⟩
    · have tt : (txtB (.str w) && true) = true := t
      simp only [Bool.and_eq_true, Bool.and_true] at tt
      have tw : (PyData.strOk w && decide (w.length ≤ 2000)) = true := tt
      rw [Bool.and_eq_true] at tw
      show (PyData.strOk w && true) = true
      rw [tw.1]
      rfl
    · have tt : (txtB (.str w) && (txtB (.str x) && true)) = true := t
      simp only [Bool.and_eq_true] at tt
      have tw : (PyData.strOk w && decide (w.length ≤ 2000)) = true := tt.1
      have tx : (PyData.strOk x && decide (x.length ≤ 2000)) = true := tt.2.1
      rw [Bool.and_eq_true] at tw tx
      show (PyData.strOk w && (PyData.strOk x && true)) = true
      rw [tw.1, tx.1]
      rfl
    · have e' : n = m := by omega
      subst e'
      have tt : (txtB (.str w) && (txtB a && (txtB b && true))) = true := t
      simp only [Bool.and_eq_true] at tt
      have tw : (PyData.strOk w && decide (w.length ≤ 2000)) = true := tt.1
      rw [Bool.and_eq_true] at tw
      show (PyData.strOk w && (stB a && (stB b && true))) = true
      rw [tw.1, fB_st n a ha tt.2.1, fB_st n b hb tt.2.2.1]
      rfl
def hoOk (h : Ho) : Prop := txtOk (hoT h) 60
theorem hoD_st {h : Ho} (k : hoOk h) : stB (hoD h) = true := by
  cases h with
  | th => decide +kernel
  | nm y =>
    show (PyData.strOk "name" && (PyData.strOk y && true)) = true
    rw [show PyData.strOk y = true from k.1]
    decide +kernel
theorem quo_ok : txtOk quo 1 := ⟨by decide +kernel, by decide +kernel⟩
theorem calD_ok {x : Str} {n : Nat} {h : Ho} (hx : txtOk x n) (k : hoOk h) : txtOk (calD x h) (n + 61) := txt_up (txt_app (txt_app hx quo_ok) k) (by omega)
theorem holD_st {h : Ho} (k : hoOk h) : stB (holD h) = true := by
  cases h with
  | th => decide +kernel
  | nm y =>
    show (PyData.strOk "either" && ((PyData.strOk "unit" && true) && ((PyData.strOk "name" && (PyData.strOk (calD y (.nm y)) && true)) && true))) = true
    rw [(calD_ok (show txtOk y 60 from k) k).1]
    decide +kernel
theorem st_none : stB (.tuple [.str "none"]) = true := by decide +kernel
theorem kmd_row (n : Nat) (w : Str) (a b : PyData) (h : Ho) (e : ¬ PyData.eqv (.tuple [.str w, a, b]) (hoD h) = true) : kmd (n + 1) (.tuple [.str w, a, b]) h = if wE w = true then .tuple [.str "either", kmd n a h, kmd n b h] else .tuple [.str "either", .tuple [.str "pair", kmd n a h, b], .tuple [.str "pair", a, kmd n b h]] := if_neg e
theorem kmd_nam (n : Nat) (w x : Str) (h : Ho) (e : ¬ PyData.eqv (.tuple [.str w, .str x]) (hoD h) = true) : kmd (n + 1) (.tuple [.str w, .str x]) h = .tuple [.str "name", .str (calD x h)] := if_neg e
theorem kmd_one (n : Nat) (w : Str) (h : Ho) (e : ¬ PyData.eqv (.tuple [.str w]) (hoD h) = true) : kmd (n + 1) (.tuple [.str w]) h = .tuple [.str "none"] := if_neg e
theorem kmd_hol (n : Nat) (d : PyData) (h : Ho) (e : PyData.eqv d (hoD h) = true) : kmd (n + 1) d h = holD h := if_pos e
theorem kmd_st : ∀ (n : Nat) (d : PyData) (h : Ho), fB n d = true → txtB d = true → hoOk h → stB (kmd n d h) = true
  | 0, _, _, _, _, _ => st_none
  | n + 1, d, h, f, t, k => by
    by_cases e : PyData.eqv d (hoD h) = true
    · rw [kmd_hol _ _ _ e]
      exact holD_st k
    · have s := fB_st _ _ f t
      rcases fB_cases f with ⟨w, rfl, _⟩ | ⟨w, x, rfl, _, _⟩ | ⟨m, w, a, b, en, rfl, _, ha, hb⟩
      · rw [kmd_one _ _ _ e]; exact st_none
      · rw [kmd_nam _ _ _ _ e]
        have tt : (txtB (.str w) && (txtB (.str x) && true)) = true := t
        simp only [Bool.and_eq_true] at tt
        have tx : (PyData.strOk x && decide (x.length ≤ 2000)) = true := tt.2.1
        rw [Bool.and_eq_true, decide_eq_true_eq] at tx
        show (PyData.strOk "name" && (PyData.strOk (calD x h) && true)) = true
        rw [(calD_ok (n := 2000) tx k).1]
        decide +kernel
      · have en' : n = m := by omega
        subst en'
        have tt : (txtB (.str w) && (txtB a && (txtB b && true))) = true := t
        simp only [Bool.and_eq_true] at tt
        have ka := kmd_st n a h ha tt.2.1 k
        have kb := kmd_st n b h hb tt.2.2.1 k
        have sa := fB_st n a ha tt.2.1
        have sb := fB_st n b hb tt.2.2.1
        rw [kmd_row _ _ _ _ _ e]
        by_cases q : wE w = true
        · rw [if_pos q]
          show (PyData.strOk "either" && (stB (kmd n a h) && (stB (kmd n b h) && true))) = true
          rw [ka, kb]
          decide +kernel
        · rw [if_neg q]
          show (PyData.strOk "either" && ((PyData.strOk "pair" && (stB (kmd n a h) && (stB b && true))) && ((PyData.strOk "pair" && (stB a && (stB (kmd n b h) && true))) && true))) = true
          rw [ka, kb, sa, sb]
          decide +kernel
theorem depth_row (w : Str) (a b : PyData) : (PyData.tuple [.str w, a, b]).depth = max a.depth b.depth + 1 := by
  simp only [PyData.depth, PyData.depthAll]
  omega
theorem kmd_depth : ∀ (n : Nat) (d : PyData) (h : Ho), fB n d = true → (kmd n d h).depth ≤ 2 * d.depth
  | 0, _, _, f => nomatch f
  | n + 1, d, h, f => by
    have one : 1 ≤ d.depth := by
      rcases fB_cases f with ⟨w, rfl, _⟩ | ⟨w, x, rfl, _, _⟩ | ⟨m, w, a, b, en, rfl, _, ha, hb⟩
      · simp only [PyData.depth, PyData.depthAll]; omega
      · simp only [PyData.depth, PyData.depthAll]; omega
      · rw [depth_row]; omega
    by_cases e : PyData.eqv d (hoD h) = true
    · rw [kmd_hol _ _ _ e]
      have : (holD h).depth ≤ 2 := by
        cases h with
        | th => decide
        | nm y => simp only [holD, PyData.depth, PyData.depthAll]; omega
      omega
    · rcases fB_cases f with ⟨w, rfl, _⟩ | ⟨w, x, rfl, _, _⟩ | ⟨m, w, a, b, en, rfl, _, ha, hb⟩
      · rw [kmd_one _ _ _ e]; simp only [PyData.depth, PyData.depthAll]; omega
      · rw [kmd_nam _ _ _ _ e]; simp only [PyData.depth, PyData.depthAll]; omega
      · have en' : n = m := by omega
        subst en'
        have ia := kmd_depth n a h ha
        have ib := kmd_depth n b h hb
        rw [kmd_row _ _ _ _ _ e]
        rw [depth_row]
        by_cases q : wE w = true
        · rw [if_pos q, depth_row]
          omega
        · rw [if_neg q, depth_row, depth_row, depth_row]
          omega
end Toy
set_option Elab.async false
set_option linter.all false
set_option maxRecDepth 100000
set_option maxHeartbeats 2000000
namespace Toy
open PySem L2
def spCal (K : PySem.W.Frag) : Sp := fun vs H Q _ => ∃ (x : Str) (u : V) (ho : Ho), vs = [.str x, u] ∧ Dq K H u (hoD ho) ∧ txtOk x 2000 ∧ txtOk (hoT ho) 2000 ∧ Q (.str (calD x ho)) H
section
variable {P : Program} {w : World} {K : PySem.W.Frag} {mg : Str → Option Value} {base : Heap}

abbrev sNmMd : Stmt := top 22
theorem scNmMd : FnScope ["name", "hole"] ["name", "hole"] (defScope sNmMd) := ⟨rfl, rfl, rfl, by decide +kernel, rfl, by decide +kernel, by decide +kernel⟩
theorem ok_NmMd {f : Addr} {fd : FuncData} (F : Fun K "name_made" "name_made" sNmMd f fd) : FnOk P w K mg base CX0 1 f fd ["name", "hole"] (spCal K) := by
  refine F.ok scNmMd (fun vs H Q E h => ?_) (fun cdv A outer s H vs Q E hr h => ?_)
  · obtain ⟨x, u, ho, rfl, _⟩ := h
    rfl
  obtain ⟨x, u, ho, rfl, hu, tx, tl, q⟩ := h
  refine ⟨_, pss_one (ps_ret (pe_op op_add_str (pe_op op_add_str (pv 0) pe_str) (pe_ifExp (pt_cmpR op_eq (pe_ix ix_tup (pv 1) pe_int (fun _ _ => rfl)) pe_str (nomark _)) (pe_ix ix_tup (pv 1) pe_int (fun _ _ => rfl)) pe_str))), ?_⟩
  have z3 : ∀ {k : Nat}, k ≤ 4500 → k ≤ sizeLine := fun h => Nat.le_trans h (by decide)
  have l1 := tx.2
  have l2 := tl.2
  have lq := quo_ok.2
  have l3 := (txt_app tx quo_ok).2
  refine ⟨_, rfl, x, quo, rfl, rfl, z3 (by omega), ?_⟩
  cases ho with
  | th =>
    obtain ⟨ad, xs, rfl, hx, hA⟩ := dq_tuple hu
    obtain ⟨x0, rs, rfl, g0, hA⟩ := dqAll_cons hA
    cases g0
    refine ⟨_, rfl, ad, _, 0, _, rfl, rfl, hx, atI_nat (j := 0) rfl, rfl, _, rfl, ?_⟩
    refine iteF ⟨x ++ quo, _, rfl, rfl, z3 (by have : (("" : Str)).length = 0 := by decide +kernel
                                               omega), ?_⟩
    exact q
  | nm y =>
    obtain ⟨ad, xs, rfl, hx, hA⟩ := dq_tuple hu
    obtain ⟨x0, rs, rfl, g0, hA⟩ := dqAll_cons hA
    obtain ⟨x1, rs, rfl, g1, hA⟩ := dqAll_cons hA
    cases g0
    cases g1
    refine ⟨_, rfl, ad, _, 0, _, rfl, rfl, hx, atI_nat (j := 0) rfl, rfl, _, rfl, ?_⟩
    refine iteT ⟨_, rfl, ad, _, 1, _, rfl, rfl, hx, atI_nat (j := 1) rfl, ?_⟩
    exact ⟨x ++ quo, y, rfl, rfl, z3 (by have l2' : y.length ≤ 2000 := l2
                                         omega), q⟩

abbrev sClld : Stmt := top 63
theorem scClld : FnScope ["name", "hole"] ["name", "hole"] (defScope sClld) := ⟨rfl, rfl, rfl, by decide +kernel, rfl, by decide +kernel, by decide +kernel⟩
theorem ok_Clld {f : Addr} {fd : FuncData} (F : Fun K "_law_called" "_law_called" sClld f fd) : FnOk P w K mg base CX0 1 f fd ["name", "hole"] (spCal K) := by
  refine F.ok scClld (fun vs H Q E h => ?_) (fun cdv A outer s H vs Q E hr h => ?_)
  · obtain ⟨x, u, ho, rfl, _⟩ := h
    rfl
  obtain ⟨x, u, ho, rfl, hu, tx, tl, q⟩ := h
  refine ⟨_, pss_one (ps_ret (pe_op op_add_str (pe_op op_add_str (pv 0) pe_str) (pe_ifExp (pt_cmpR op_eq (pe_ix ix_tup (pv 1) pe_int (fun _ _ => rfl)) pe_str (nomark _)) (pe_ix ix_tup (pv 1) pe_int (fun _ _ => rfl)) pe_str))), ?_⟩
  have z3 : ∀ {k : Nat}, k ≤ 4500 → k ≤ sizeLine := fun h => Nat.le_trans h (by decide)
  have l1 := tx.2
  have l2 := tl.2
  have lq := quo_ok.2
  have l3 := (txt_app tx quo_ok).2
  refine ⟨_, rfl, x, quo, rfl, rfl, z3 (by omega), ?_⟩
  cases ho with
  | th =>
    obtain ⟨ad, xs, rfl, hx, hA⟩ := dq_tuple hu
    obtain ⟨x0, rs, rfl, g0, hA⟩ := dqAll_cons hA
    cases g0
    refine ⟨_, rfl, ad, _, 0, _, rfl, rfl, hx, atI_nat (j := 0) rfl, rfl, _, rfl, ?_⟩
    refine iteF ⟨x ++ quo, _, rfl, rfl, z3 (by have : (("" : Str)).length = 0 := by decide +kernel
                                               omega), ?_⟩
    exact q
  | nm y =>
    obtain ⟨ad, xs, rfl, hx, hA⟩ := dq_tuple hu
    obtain ⟨x0, rs, rfl, g0, hA⟩ := dqAll_cons hA
    obtain ⟨x1, rs, rfl, g1, hA⟩ := dqAll_cons hA
    cases g0
    cases g1
    refine ⟨_, rfl, ad, _, 0, _, rfl, rfl, hx, atI_nat (j := 0) rfl, rfl, _, rfl, ?_⟩
    refine iteT ⟨_, rfl, ad, _, 1, _, rfl, rfl, hx, atI_nat (j := 1) rfl, ?_⟩
    exact ⟨x ++ quo, y, rfl, rfl, z3 (by have l2' : y.length ≤ 2000 := l2
                                         omega), q⟩
end
end Toy
set_option Elab.async false
set_option linter.all false
set_option maxRecDepth 100000
set_option maxHeartbeats 2000000
namespace Toy
open PySem L2
abbrev sHolM : Stmt := top 25
abbrev sKinM : Stmt := top 24
abbrev sPaiM : Stmt := top 26
structure Nc (K : PySem.W.Frag) (mg : Str → Option Value) : Prop where
  thing : ∃ a, mg "THING" = some (.ref a) ∧ ∀ H, Dq K H (.ref a) (.tuple [.str "thing"])
  none : ∃ a, mg "NONE" = some (.ref a) ∧ ∀ H, Dq K H (.ref a) (.tuple [.str "none"])
  unit : ∃ a, mg "UNIT" = some (.ref a) ∧ ∀ H, Dq K H (.ref a) (.tuple [.str "unit"])
def spHo (K : PySem.W.Frag) : Sp := fun vs H Q _ => ∃ (u : V) (h : Ho), vs = [u] ∧ Dq K H u (hoD h) ∧ hoOk h ∧ ∀ v H', Same H H' → Dq K H' v (holD h) → Q v H'
def spKm (K : PySem.W.Frag) (n : Nat) : Sp := fun vs H Q _ => ∃ (v u : V) (d : PyData) (h : Ho), vs = [v, u] ∧ Dq K H v d ∧ fB n d = true ∧ txtB d = true ∧ d.depth ≤ 60 ∧ Dq K H u (hoD h) ∧ hoOk h ∧
  ∀ v' H', Same H H' → Dq K H' v' (kmd n d h) → Q v' H'
def spPm (K : PySem.W.Frag) (n : Nat) : Sp := fun vs H Q _ => ∃ (v v2 u : V) (a b : PyData) (h : Ho), vs = [v, v2, u] ∧ Dq K H v a ∧ Dq K H v2 b ∧ (fB n a = true ∧ txtB a = true ∧ a.depth ≤ 60) ∧ (fB n b = true ∧ txtB b = true ∧ b.depth ≤ 60) ∧ Dq K H u (hoD h) ∧ hoOk h ∧
  ∀ v' H', Same H H' → Dq K H' v' (.tuple [.str "either", .tuple [.str "pair", kmd n a h, b], .tuple [.str "pair", a, kmd n b h]]) → Q v' H'
theorem shp {d : PyData} (h : stB d = true) (k : d.depth ≤ 64) : SeqAt.shaped d = true := by
  show (d.canLay0 && decide (d.depth ≤ 64)) = true
  rw [stB_lay d h, decide_eq_true k]
  rfl
theorem hoD_depth (h : Ho) : (hoD h).depth ≤ 64 := by
  cases h with
  | th => decide
  | nm y => simp only [hoD, PyData.depth, PyData.depthAll]; omega
theorem ho_up {h : Ho} (k : hoOk h) : txtOk (hoT h) 2000 := txt_up k (by omega)
theorem dq_row1 {K : PySem.W.Frag} {H : Hp} {t : Addr} {w : Str} {v : V} {d : PyData} {ob : Obj} (h : H t = some (.frz ob (.tup [.str w, v]))) (hob : ob.dict = none) (D : Dq K H v d) : Dq K H (.ref t) (.tuple [.str w, d]) := .tup (SqP.of h hob) (.cons (.str _) (.cons D .nil))
theorem dq_row2 {K : PySem.W.Frag} {H : Hp} {t : Addr} {w : Str} {v v2 : V} {d d2 : PyData} {ob : Obj} (h : H t = some (.frz ob (.tup [.str w, v, v2]))) (hob : ob.dict = none) (D : Dq K H v d) (D2 : Dq K H v2 d2) : Dq K H (.ref t) (.tuple [.str w, d, d2]) :=
  .tup (SqP.of h hob) (.cons (.str _) (.cons D (.cons D2 .nil)))
section
variable {P : Program} {w : World} {K : PySem.W.Frag} {mg : Str → Option Value} {base : Heap}
theorem scHolM : FnScope ["hole"] ["hole"] (defScope sHolM) := ⟨rfl, rfl, rfl, by decide +kernel, rfl, by decide +kernel, by decide +kernel⟩
theorem scKinM : FnScope ["kind", "hole", "word"] ["kind", "hole"] (defScope sKinM) := ⟨rfl, rfl, rfl, by decide +kernel, rfl, by decide +kernel, by decide +kernel⟩
theorem scPaiM : FnScope ["first", "second", "hole"] ["first", "second", "hole"] (defScope sPaiM) := ⟨rfl, rfl, rfl, by decide +kernel, rfl, by decide +kernel, by decide +kernel⟩
theorem ok_holM {f fC : Addr} {fd dC : FuncData} (F : Fun K "hole_made" "hole_made" sHolM f fd) (N : Nc K mg) (C : Gv P w K mg base 1 "name_made" fC dC ["name", "hole"] (spCal K)) : FnOk P w K mg base CX0 2 f fd ["hole"] (spHo K) := by
  refine F.ok scHolM (fun vs H Q E h => ?_) (fun cdv A outer s H vs Q E hr h => ?_)
  · obtain ⟨u, h, rfl, _⟩ := h
    rfl
  obtain ⟨u, ho, rfl, hu, tl, q⟩ := h
  obtain ⟨aT, mT, dT⟩ := N.thing
  obtain ⟨aU, mU, dU⟩ := N.unit
  refine ⟨_, pss_cons (ps_if (pt_cmpR (op_eqD hr.units) (pv 0) (pe_glob (v := .ref aT) rfl mT rfl) (nomark _)) (pss_one (ps_ret (pe_glob (v := .ref aU) rfl mU rfl))) pss_nil)
    (pss_one (ps_ret (pe_tupN (pa_cons pe_str (pa_cons (pe_glob (v := .ref aU) rfl mU rfl) (pa_cons (pe_tupN (pa_cons pe_str (pa_cons (pe_call C.ok hr rfl C.m C.k C.b .nil pass0 (pa_cons (pe_ix ix_tup (pv 0) pe_int (fun _ _ => rfl)) (pa_cons (pv 0) pa_nil))) pa_nil))) pa_nil)))))), ?_⟩
  have z3 : ∀ {k : Nat}, k ≤ 20 → k ≤ sizeLine := fun h => Nat.le_trans h (by decide)
  refine ⟨_, rfl, hoD ho, _, Dq.dp _ _ (hoD_st tl) hu, Dq.dp _ _ (by decide +kernel) (dT H), shp (hoD_st tl) (hoD_depth ho), by decide +kernel, _, rfl, ?_⟩
  cases ho with
  | th => exact iteT (q _ H (Same.refl H) (dU H))
  | nm y =>
    refine iteF ⟨_, rfl, ?_⟩
    obtain ⟨ad, xs, rfl, hx, hA⟩ := dq_tuple hu
    obtain ⟨x0, rs, rfl, g0, hA⟩ := dqAll_cons hA
    obtain ⟨x1, rs, rfl, g1, hA⟩ := dqAll_cons hA
    cases g0
    cases g1
    refine ⟨ad, _, 1, _, rfl, rfl, hx, atI_nat (j := 1) rfl, _, rfl, y, .ref ad, .nm y, rfl, hu, ho_up tl, ho_up tl, ?_⟩
    refine ⟨z3 (by show 2 ≤ 20; decide), fun t1 o1 h1 e1 => ⟨z3 (by show 3 ≤ 20; decide), fun t2 o2 h2 e2 => ?_⟩⟩
    have s1 := same_new h1 (.frz o1 (.tup [.str "name", .str (calD y (.nm y))]))
    have s2 := same_new h2 (.frz o2 (.tup [.str "either", .ref aU, .ref t1]))
    exact q _ _ (s1.trans s2) (dq_row2 upd_same e2 (dU _) (Dq.mono s2 _ _ (dq_row1 upd_same e1 (.str _))))
theorem ok_paiM {f fK : Addr} {fd dK : FuncData} {n k : Nat} (F : Fun K "pair_made" "pair_made" sPaiM f fd) (R : Gv P w K mg base k "kind_made" fK dK ["kind", "hole"] (spKm K n)) : FnOk P w K mg base CX0 (k + 1) f fd ["first", "second", "hole"] (spPm K n) := by
  refine F.ok scPaiM (fun vs H Q E h => ?_) (fun cdv A outer s H vs Q E hr h => ?_)
  · obtain ⟨v, v2, u, a, b, ho, rfl, _⟩ := h
    rfl
  obtain ⟨v, v2, u, a, b, ho, rfl, hv, hv2, ⟨fa, ta, da⟩, ⟨fb, tb, db⟩, hu, tl, q⟩ := h
  refine ⟨_, pss_one (ps_ret (pe_tupN (pa_cons pe_str (pa_cons (pe_tupN (pa_cons pe_str (pa_cons (pe_call R.ok hr rfl R.m R.k R.b .nil pass0 (pa_cons (pv 0) (pa_cons (pv 2) pa_nil))) (pa_cons (pv 1) pa_nil))))
    (pa_cons (pe_tupN (pa_cons pe_str (pa_cons (pv 0) (pa_cons (pe_call R.ok hr rfl R.m R.k R.b .nil pass0 (pa_cons (pv 1) (pa_cons (pv 2) pa_nil))) pa_nil)))) pa_nil))))), ?_⟩
  have z3 : ∀ {k : Nat}, k ≤ 20 → k ≤ sizeLine := fun h => Nat.le_trans h (by decide)
  refine ⟨_, rfl, _, rfl, v, u, a, ho, rfl, hv, fa, ta, da, hu, tl, fun x1 H1 s1 D1 => ?_⟩
  refine ⟨_, rfl, z3 (by show 3 ≤ 20; decide), fun t1 o1 h1 e1 => ?_⟩
  have s2 := same_new h1 (.frz o1 (.tup [.str "pair", x1, v2]))
  have D2 := dq_row2 (K := K) (H := upd H1 t1 (.frz o1 (.tup [.str "pair", x1, v2]))) (w := "pair") upd_same e1 (Dq.mono s2 _ _ D1) (Dq.mono (s1.trans s2) _ _ hv2)
  have sA := s1.trans s2
  generalize upd H1 t1 (.frz o1 (.tup [.str "pair", x1, v2])) = H2 at s2 D2 sA ⊢
  refine ⟨_, rfl, _, rfl, _, rfl, v2, u, b, ho, rfl, Dq.mono sA _ _ hv2, fb, tb, db, Dq.mono sA _ _ hu, tl, fun x2 H3 s3 D3 => ?_⟩
  refine ⟨z3 (by show 3 ≤ 20; decide), fun t2 o2 h2 e2 => ⟨z3 (by show 3 ≤ 20; decide), fun t3 o3 h3 e3 => ?_⟩⟩
  have s4 := same_new h2 (.frz o2 (.tup [.str "pair", v, x2]))
  have sB := sA.trans (s3.trans s4)
  have D4 := dq_row2 (K := K) (H := upd H3 t2 (.frz o2 (.tup [.str "pair", v, x2]))) (w := "pair") upd_same e2 (Dq.mono sB _ _ hv) (Dq.mono s4 _ _ D3)
  have D5 := Dq.mono (s3.trans s4) _ _ D2
  have s5 := same_new h3 (.frz o3 (.tup [.str "either", .ref t1, .ref t2]))
  exact q _ _ (sB.trans s5) (dq_row2 upd_same e3 (Dq.mono s5 _ _ D5) (Dq.mono s5 _ _ D4))
theorem w_one {w : Str} (h : w1 w = true) : V.str w = V.str "name" := of_decide_eq_true h
theorem w_two {w : Str} (h : w2 w = true) : V.str w = V.str "pair" ∨ V.str w = V.str "either" := by
  have h' : ((("pair" : Str) == w) || ((("either" : Str) == w) || false)) = true := h
  rw [Bool.or_false, Bool.or_eq_true] at h'
  rcases h' with z | z
  · exact .inl (by rw [eq_of_beq z])
  · exact .inr (by rw [eq_of_beq z])
theorem w_three {w : Str} (h : w3 w = true) : w = "thing" ∨ w = "none" ∨ w = "unit" := by
  have h' : ((("thing" : Str) == w) || ((("none" : Str) == w) || ((("unit" : Str) == w) || false))) = true := h
  rw [Bool.or_false, Bool.or_eq_true, Bool.or_eq_true] at h'
  rcases h' with z | z | z
  · exact .inl (eq_of_beq z).symm
  · exact .inr (.inl (eq_of_beq z).symm)
  · exact .inr (.inr (eq_of_beq z).symm)
theorem ok_kinM {f fC fH fP : Addr} {fd dC dH dP : FuncData} {n k : Nat} (hk : 2 ≤ k) (F : Fun K "kind_made" "kind_made" sKinM f fd) (N : Nc K mg) (C : Gv P w K mg base 1 "name_made" fC dC ["name", "hole"] (spCal K)) (HM : Gv P w K mg base 2 "hole_made" fH dH ["hole"] (spHo K))
    (R : Gv P w K mg base k "kind_made" f fd ["kind", "hole"] (spKm K n)) (PM : Gv P w K mg base (k + 1) "pair_made" fP dP ["first", "second", "hole"] (spPm K n)) : FnOk P w K mg base CX0 (k + 2) f fd ["kind", "hole"] (spKm K (n + 1)) := by
  refine F.ok scKinM (fun vs H Q E h => ?_) (fun cdv A outer s H vs Q E hr h => ?_)
  · obtain ⟨v, u, d, ho, rfl, _⟩ := h
    rfl
  obtain ⟨v, u, d, ho, rfl, hv, fm, tx, dd, hu, tl, q⟩ := h
  obtain ⟨aN, mN, dN⟩ := N.none
  have hr0 : Room k (A.deeper _) := hr.mono (by omega)
  have hr1 : Room 1 (A.deeper _) := hr.mono (by omega)
  have hr2 : Room 2 (A.deeper _) := hr.mono (by omega)
  refine ⟨_, pss_cons (ps_if (pt_cmpR (op_eqD hr.units) (pv 0) (pv 1) (nomark _)) (pss_one (ps_ret (pe_call HM.ok hr2 rfl HM.m HM.k HM.b .nil pass0 (pa_cons (pv 1) pa_nil)))) pss_nil)
    (pss_cons (ps_set (i := 2) scKinM.nd rfl (.inl rfl) (pe_ix ix_tup (pv 0) pe_int (fun _ _ => rfl)))
    (pss_cons (ps_if (pt_cmpR op_eq (pv 2) pe_str (nomark _)) (pss_one (ps_ret (pe_tupN (pa_cons pe_str (pa_cons (pe_call C.ok hr1 rfl C.m C.k C.b .nil pass0 (pa_cons (pe_ix ix_tup (pv 0) pe_int (fun _ _ => rfl)) (pa_cons (pv 1) pa_nil))) pa_nil))))) pss_nil)
    (pss_cons (ps_if (pt_cmpR op_eq (pv 2) pe_str (nomark _)) (pss_one (ps_ret (pe_tupN (pa_cons pe_str (pa_cons (pe_call R.ok hr0 rfl R.m R.k R.b .nil pass0 (pa_cons (pe_ix ix_tup (pv 0) pe_int (fun _ _ => rfl)) (pa_cons (pv 1) pa_nil)))
      (pa_cons (pe_call R.ok hr0 rfl R.m R.k R.b .nil pass0 (pa_cons (pe_ix ix_tup (pv 0) pe_int (fun _ _ => rfl)) (pa_cons (pv 1) pa_nil))) pa_nil)))))) pss_nil)
    (pss_cons (ps_if (pt_cmpR op_eq (pv 2) pe_str (nomark _)) (pss_one (ps_ret (pe_call PM.ok hr rfl PM.m PM.k PM.b .nil pass0 (pa_cons (pe_ix ix_tup (pv 0) pe_int (fun _ _ => rfl)) (pa_cons (pe_ix ix_tup (pv 0) pe_int (fun _ _ => rfl)) (pa_cons (pv 1) pa_nil)))))) pss_nil)
    (pss_one (ps_ret (pe_glob (v := .ref aN) rfl mN rfl))))))), ?_⟩
  have z3 : ∀ {k : Nat}, k ≤ 20 → k ≤ sizeLine := fun h => Nat.le_trans h (by decide)
  have sd := fB_st _ _ fm tx
  refine ⟨_, rfl, _, rfl, d, hoD ho, Dq.dp _ _ sd hv, Dq.dp _ _ (hoD_st tl) hu, shp sd (by omega), shp (hoD_st tl) (hoD_depth ho), _, rfl, ?_⟩
  cases e : PyData.eqv d (hoD ho) with
  | true =>
    refine iteT ⟨_, rfl, u, ho, rfl, hu, tl, fun x1 H1 s1 D1 => ?_⟩
    exact q x1 H1 s1 (by rw [kmd_hol _ _ _ e]; exact D1)
  | false =>
    have e' : ¬ PyData.eqv d (hoD ho) = true := by rw [e]; exact Bool.false_ne_true
    refine iteF ?_
    rcases fB_cases fm with ⟨w, rfl, hw⟩ | ⟨w, x, rfl, hw, _⟩ | ⟨m, w, a, b, en, rfl, hw, ha, hb⟩
    · obtain ⟨ad, xs, rfl, hx, hA⟩ := dq_tuple hv
      obtain ⟨x0, rs, rfl, g0, hA⟩ := dqAll_cons hA
      cases g0
      rw [kmd_one _ _ _ e'] at q
      refine ⟨_, rfl, ad, _, 0, _, rfl, rfl, hx, atI_nat (j := 0) rfl, ?_⟩
      have no1 : decide (V.str w = V.str "name") = false := by rcases w_three hw with rfl | rfl | rfl <;> decide +kernel
      have no2 : decide (V.str w = V.str "either") = false := by rcases w_three hw with rfl | rfl | rfl <;> decide +kernel
      have no3 : decide (V.str w = V.str "pair") = false := by rcases w_three hw with rfl | rfl | rfl <;> decide +kernel
      refine ⟨_, rfl, rfl, _, rfl, ?_⟩
      rw [no1]
      refine iteF ⟨_, rfl, rfl, _, rfl, ?_⟩
      rw [no2]
      refine iteF ⟨_, rfl, rfl, _, rfl, ?_⟩
      rw [no3]
      exact iteF (q _ H (Same.refl H) (dN H))
    · have hw' := w_one hw
      injection hw' with hw'
      subst hw'
      have tt : (txtB (.str "name") && (txtB (.str x) && true)) = true := tx
      simp only [Bool.and_eq_true] at tt
      have tx' : (PyData.strOk x && decide (x.length ≤ 2000)) = true := tt.2.1
      rw [Bool.and_eq_true, decide_eq_true_eq] at tx'
      obtain ⟨ad, xs, rfl, hx, hA⟩ := dq_tuple hv
      obtain ⟨x0, rs, rfl, g0, hA⟩ := dqAll_cons hA
      obtain ⟨x1, rs, rfl, g1, hA⟩ := dqAll_cons hA
      cases g0
      cases g1
      rw [kmd_nam _ _ _ _ e'] at q
      refine ⟨_, rfl, ad, _, 0, _, rfl, rfl, hx, atI_nat (j := 0) rfl, ?_⟩
      refine ⟨_, rfl, rfl, _, rfl, ?_⟩
      refine iteT ⟨_, rfl, ad, _, 1, _, rfl, rfl, hx, atI_nat (j := 1) rfl, _, rfl, x, u, ho, rfl, hu, tx', ho_up tl, ?_⟩
      refine ⟨z3 (by show 2 ≤ 20; decide), fun t1 o1 h1 e1 => ?_⟩
      exact q _ _ (same_new h1 _) (dq_row1 upd_same e1 (.str _))
    · have en' : n = m := by omega
      subst en'
      have tt : (txtB (.str w) && (txtB a && (txtB b && true))) = true := tx
      simp only [Bool.and_eq_true] at tt
      rw [depth_row] at dd
      rw [kmd_row _ _ _ _ _ e'] at q
      obtain ⟨ad, xs, rfl, hx, hA⟩ := dq_tuple hv
      obtain ⟨x0, rs, rfl, g0, hA⟩ := dqAll_cons hA
      obtain ⟨x1, rs, rfl, g1, hA⟩ := dqAll_cons hA
      obtain ⟨x2, rs, rfl, g2, hA⟩ := dqAll_cons hA
      cases g0
      have no1 : decide (V.str w = V.str "name") = false := by rcases w_two hw with z | z <;> rw [z] <;> decide +kernel
      refine ⟨_, rfl, ad, _, 0, _, rfl, rfl, hx, atI_nat (j := 0) rfl, ?_⟩
      refine ⟨_, rfl, rfl, _, rfl, ?_⟩
      rw [no1]
      refine iteF ⟨_, rfl, rfl, _, rfl, ?_⟩
      rcases w_two hw with z | z
      · injection z with z
        subst z
        have en1 : wE "pair" = false := by decide +kernel
        rw [en1, if_neg Bool.false_ne_true] at q
        have no2 : decide (V.str "pair" = V.str "either") = false := by decide +kernel
        rw [no2]
        refine iteF ⟨_, rfl, rfl, _, rfl, ?_⟩
        refine iteT ⟨_, rfl, ad, _, 1, _, rfl, rfl, hx, atI_nat (j := 1) rfl, _, rfl, ad, _, 2, _, rfl, rfl, hx, atI_nat (j := 2) rfl, _, rfl, ?_⟩
        exact ⟨x1, x2, u, a, b, ho, rfl, g1, g2, ⟨ha, tt.2.1, by omega⟩, ⟨hb, tt.2.2.1, by omega⟩, hu, tl, q⟩
      · injection z with z
        subst z
        have en1 : wE "either" = true := by decide +kernel
        rw [en1, if_pos rfl] at q
        refine iteT ⟨_, rfl, ad, _, 1, _, rfl, rfl, hx, atI_nat (j := 1) rfl, _, rfl, x1, u, a, ho, rfl, g1, ha, tt.2.1, by omega, hu, tl, fun y1 H1 s1 D1 => ?_⟩
        refine ⟨_, rfl, ad, _, 2, _, rfl, rfl, s1.seqT hx, atI_nat (j := 2) rfl, _, rfl, x2, u, b, ho, rfl, Dq.mono s1 _ _ g2, hb, tt.2.2.1, by omega, Dq.mono s1 _ _ hu, tl, fun y2 H2 s2 D2 => ?_⟩
        refine ⟨z3 (by show 3 ≤ 20; decide), fun t1 o1 h1 e1 => ?_⟩
        have s3 := same_new h1 (.frz o1 (.tup [.str "either", y1, y2]))
        exact q _ _ (s1.trans (s2.trans s3)) (dq_row2 upd_same e1 (Dq.mono (s2.trans s3) _ _ D1) (Dq.mono s3 _ _ D2))
theorem none_leftKi {f : Addr} {fd : FuncData} {k : Nat} : FnOk P w K mg base CX0 k f fd ["kind", "hole"] (spKm K 0) := ⟨fun _ _ _ _ h => by
    obtain ⟨v, u, d, ho, rfl, _⟩ := h
    rfl, fun _ _ _ _ _ _ _ _ _ _ _ _ _ h => by
    obtain ⟨v, u, d, ho, _, _, f, _⟩ := h
    cases f⟩
/-- each depth -/
theorem kindsM {f fC fH fP : Addr} {fd dC dH dP : FuncData} (F : Fun K "kind_made" "kind_made" sKinM f fd) (bF : Binds K fd ["kind", "hole"] []) (mF : mg "kind_made" = some (.ref f)) (FP : Fun K "pair_made" "pair_made" sPaiM fP dP) (bP : Binds K dP ["first", "second", "hole"] []) (mP : mg "pair_made" = some (.ref fP))
    (N : Nc K mg) (C : Gv P w K mg base 1 "name_made" fC dC ["name", "hole"] (spCal K)) (HM : Gv P w K mg base 2 "hole_made" fH dH ["hole"] (spHo K)) : ∀ n : Nat, Gv P w K mg base (2 + 2 * n) "kind_made" f fd ["kind", "hole"] (spKm K n)
  | 0 => ⟨none_leftKi, bF, F.kp, mF⟩
  | n + 1 =>
    have R := kindsM F bF mF FP bP mP N C HM n
    ⟨ok_kinM (n := n) (k := 2 + 2 * n) (by omega) F N C HM R ⟨ok_paiM FP R, bP, FP.kp, mP⟩, bF, F.kp, mF⟩
end
end Toy
set_option Elab.async false
set_option linter.all false
set_option maxRecDepth 100000
set_option maxHeartbeats 2000000
namespace Toy
open PySem L2 PyProof.Rows
abbrev sMadeOf : Stmt := top 23
abbrev sIsKnown : Stmt := top 34
abbrev sKnHole : Stmt := top 35
abbrev sByRules : Stmt := top 32
/-! ### a book's table -/
def lookB (bk : List (Str × PyData)) (x : Str) : Option PyData := (bk.find? fun p => decide (p.1 = x)).map (·.2)
def TabR (K : PySem.W.Frag) (H : Hp) (kv : Key × V) (p : Str × PyData) : Prop := kv.1 = .inr p.1 ∧ Dq K H kv.2 p.2
def Tab (K : PySem.W.Frag) (H : Hp) (t : Addr) (bk : List (Str × PyData)) : Prop := ∃ kvs, H t = some (.dK kvs) ∧ Paired (TabR K H) kvs bk
theorem paired_imp {α β : Type} {R R' : α → β → Prop} (h : ∀ a b, R a b → R' a b) : ∀ {xs : List α} {ys : List β}, Paired R xs ys → Paired R' xs ys
  | _, _, .nil => .nil
  | _, _, .cons r t => .cons (h _ _ r) (paired_imp h t)
theorem Tab.on {K : PySem.W.Frag} {H H' : Hp} {t : Addr} {bk : List (Str × PyData)} (e : Same H H') (h : Tab K H t bk) : Tab K H' t bk := by
  obtain ⟨kvs, a, r⟩ := h
  exact ⟨kvs, e _ _ a, paired_imp (fun kv p z => ⟨z.1, Dq.mono e _ _ z.2⟩) r⟩
theorem tab_look {K : PySem.W.Frag} {H : Hp} {x : Str} : ∀ {kvs : List (Key × V)} {bk : List (Str × PyData)}, Paired (TabR K H) kvs bk → (valV kvs (.inr x) = none ∧ lookB bk x = none) ∨ ∃ v d, valV kvs (.inr x) = some v ∧ lookB bk x = some d ∧ Dq K H v d
  | _, _, .nil => .inl ⟨rfl, rfl⟩
  | _, _, .cons (a := kv) (b := p) r t => by
    obtain ⟨e, D⟩ := r
    unfold valV lookB
    rw [List.find?_cons, List.find?_cons]
    by_cases z : p.1 = x
    · have z1 : decide (kv.1 = .inr x) = true := decide_eq_true (by rw [e, z])
      rw [z1, decide_eq_true z]
      exact .inr ⟨_, _, rfl, rfl, D⟩
    · have z1 : decide (kv.1 = .inr x) = false := decide_eq_false (fun q => z (by rw [e] at q; injection q))
      rw [z1, decide_eq_false z]
      exact tab_look t
theorem Tab.get {K : PySem.W.Frag} {H : Hp} {t : Addr} {bk : List (Str × PyData)} (h : Tab K H t bk) (x : Str) : (DGet H t (.str x) none ∧ lookB bk x = none) ∨ ∃ v d, DGet H t (.str x) (some v) ∧ lookB bk x = some d ∧ Dq K H v d := by
  obtain ⟨kvs, a, r⟩ := h
  have g := DGet.k (k := .inr x) a
  rcases tab_look (x := x) r with ⟨e, l⟩ | ⟨v, d, e, l, D⟩
  · rw [e] at g
    exact .inl ⟨g, l⟩
  · rw [e] at g
    exact .inr ⟨v, d, g, l, D⟩
theorem Tab.has {K : PySem.W.Frag} {H : Hp} {t : Addr} {bk : List (Str × PyData)} (h : Tab K H t bk) (x : Str) : ∃ o, DGet H t (.str x) o ∧ o.isSome = (lookB bk x).isSome := by
  rcases h.get x with ⟨g, l⟩ | ⟨v, d, g, l, _⟩
  · exact ⟨_, g, by rw [l]; rfl⟩
  · exact ⟨_, g, by rw [l]; rfl⟩
/-- a kind, all of whose names the book has -/
def knB (m : Nat) (bk : List (Str × PyData)) (d : PyData) : Bool := kdB m d && (ms m d).2.2.all fun x => (lookB bk x).isSome
def spKn (K : PySem.W.Frag) (m : Nat) : Sp := fun vs H Q _ => ∃ (t : Addr) (v : V) (d : PyData) (bk : List (Str × PyData)), vs = [.ref t, v] ∧ Tab K H t bk ∧ Dq K H v d ∧ txtB d = true ∧ d.depth ≤ m ∧ ∀ H', Same H H' → Q (.bl (knB m bk d)) H'
theorem perm_all {α : Type} {f : α → Bool} {a b : List α} (h : a.Perm b) : a.all f = b.all f := by
  apply Bool.eq_iff_iff.mpr
  rw [List.all_eq_true, List.all_eq_true]
  exact ⟨fun z x m => z x (h.mem_iff.mpr m), fun z x m => z x (h.mem_iff.mp m)⟩
section
variable {P : Program} {w : World} {K : PySem.W.Frag} {mg : Str → Option Value} {base : Heap} {m : Nat}
theorem scKn : FnScope ["table", "value", "parts", "name"] ["table", "value"] (defScope sIsKnown) := ⟨rfl, rfl, rfl, by decide +kernel, rfl, by decide +kernel, by decide +kernel⟩
theorem ok_known {f gP gN : Addr} {fd dP dN : FuncData} (F : Fun K "is_known" "is_known" sIsKnown f fd) (T : Nk mg) (PF : Gv P w K mg base 4 "parts_found" gP dP ["value"] (spPf K)) (NA : Gv P w K mg base 1 "names_among" gN dN ["parts"] (spNa K)) : FnOk P w K mg base CX0 5 f fd ["table", "value"] (spKn K m) := by
  refine F.ok scKn (fun vs H Q E h => ?_) (fun cdv A outer s H vs Q E hr h => ?_)
  · obtain ⟨t, v, d, bk, rfl, _⟩ := h
    rfl
  obtain ⟨t, v, d, bk, rfl, tb, hd, ht, hdp, q⟩ := h
  have hr1 : Room 1 (A.deeper _) := hr.mono (by omega)
  refine ⟨_, pss_cons (ps_set (i := 2) scKn.nd rfl (.inl rfl) (pe_call PF.ok hr rfl PF.m PF.k PF.b .nil pass0 (pa_cons (pv 1) pa_nil)))
    (pss_one (ps_ret (pe_and (pe_cmpR op_notN (pv 2) pe_non (nomark _)) (pe_one (pe_callB (cr_all rfl) rfl T.all (by decide +kernel)
      (pa_cons (pe_lc (own := [("name", 3)]) (g := gName 3) (tt := tYes) rfl scKn.nd (pi_list (pe_call NA.ok hr1 rfl NA.m NA.k NA.b .nil pass0 (pa_cons (pv 2) pa_nil))) (blkOk_by (own := [("name", 3)]) (N := ["table", "value", "parts", "name"]) (sc := defScope sIsKnown) (by decide +kernel))
        (fun _ _ _ _ _ => pg_name (i := 3) scKn.nd rfl (.inl rfl)) (fun _ _ _ _ _ => pts_nil) (fun _ _ _ _ _ => pe_cmp (pc_din (Nat.lt_of_le_of_lt (Nat.add_le_add_left (by decide : 1 ≤ 64) _) hr.units) (pv 3) (pv 0)))) pa_nil)))))), ?_⟩
  refine ⟨_, rfl, v, d, H, rfl, Same.refl H, hd, ht, fun u H1 s1 res => ?_⟩
  refine ⟨_, rfl, ?_⟩
  rw [pf_kd hdp] at res
  cases hk : kdB m d with
  | false =>
    have e : knB m bk d = false := by unfold knB; rw [hk]; rfl
    rw [hk, if_neg Bool.false_ne_true] at res
    obtain rfl : u = .non := res
    rw [e] at q
    exact ⟨rfl, _, rfl, iteF (q H1 s1)⟩
  | true =>
    rw [hk, if_pos rfl] at res
    obtain ⟨l, fs, rfl, hl, hR⟩ := res
    have e : knB m bk d = (nmsOf (prt m d 1)).all fun x => (lookB bk x).isSome := by
      unfold knB
      rw [hk, Bool.true_and, perm_all (prt_names m d 1 (kd_form hk))]
    rw [e] at q
    have hz : (prt m d 1).length ≤ 2000 := by
      rw [prt_len]
      have hk' := hk
      unfold kdB at hk'
      rw [Bool.and_eq_true, Bool.and_eq_true] at hk'
      exact of_decide_eq_true hk'.2.2
    refine ⟨rfl, _, rfl, iteT ⟨_, rfl, ?_⟩⟩
    refine ⟨l, fs, H, _, rfl, hl, hR, s1, by omega, prt_frm m d 1 (kd_form hk), fun L H2 s2 hL => ?_⟩
    refine ⟨L, rfl, ⟨_, SqL.of hL⟩, fun D nD => ?_⟩
    have hlen := names_le (prt m d 1)
    generalize nmsOf (prt m d 1) = nl at hL q hlen
    refine lc_it (walk_list (xs := nl.map V.str)) (fun i H4 => Same H2 H4 ∧ H4 D = some (.lst ((nl.take i).map fun x => V.bl (lookB bk x).isSome))) ⟨same_new nD _, upd_same⟩ (fun i H4 _ z => SqL.of (z.1 _ _ hL)) ?_ ?_
    · rintro i y H4 _ hi ⟨s4, hD⟩ ⟨rfl, hy⟩
      refine ⟨rfl, ?_⟩
      simp only [tYes, ↓reduceIte]
      obtain ⟨x, hx, rfl⟩ : ∃ x, nl[i]? = some x ∧ V.str x = y := by
        rw [List.getElem?_map] at hy
        cases z : nl[i]? with
        | none => rw [z] at hy; cases hy
        | some x => rw [z] at hy; exact ⟨x, rfl, Option.some.inj hy⟩
      obtain ⟨o, g, eo⟩ := ((tb.on s1).on (s2.trans s4)).has x
      refine ⟨_, rfl, _, rfl, t, o, rfl, g, _, hD, ?_, fun b o e => by rw [upd_ne (ne_of_none e nD)]; exact s4 _ _ e, ?_⟩
      · rw [List.length_map]
        exact Nat.lt_of_le_of_lt (Nat.le_trans (List.length_take_le' _ _) (by omega : nl.length ≤ 2000)) (by decide)
      · rw [upd_same, List.take_add_one, hx, eo]
        simp only [Option.toList, List.map_append, List.map_cons, List.map_nil]
    · rintro H4 ⟨s4, hD⟩
      rw [List.length_map, List.take_length] at hD
      refine ⟨D, nl.map fun x => (lookB bk x).isSome, rfl, SqL.of (by rw [hD, List.map_map]; rfl), ?_⟩
      have e : (nl.map fun x => (lookB bk x).isSome).all id = nl.all fun x => (lookB bk x).isSome := by rw [List.all_map]; rfl
      rw [e]
      exact q H4 (s1.trans (s2.trans s4))
end
end Toy
set_option Elab.async false
set_option linter.all false
set_option maxRecDepth 100000
set_option maxHeartbeats 2000000
namespace Toy
open PySem L2 PyProof.Rows
/-! ### depth of a form -/
theorem fB_ms : ∀ (m : Nat) (d : PyData) (n : Nat), fB m d = true → (ms m d).1 ≤ n → fB n d = true ∧ d.depth ≤ (ms m d).1 ∧ 1 ≤ n
  | 0, _, _, h, _ => nomatch h
  | m + 1, d, n, h, le => by
    rcases fB_cases h with ⟨w, rfl, hw⟩ | ⟨w, x, rfl, hw, hx⟩ | ⟨m', w, a, b, em, rfl, hw, ha, hb⟩
    · have e : (ms (m + 1) (.tuple [.str w])).1 = 1 := rfl
      rw [e] at le ⊢
      obtain ⟨n, rfl⟩ : ∃ k, n = k + 1 := ⟨n - 1, by omega⟩
      refine ⟨by rw [fB_one]; exact hw, ?_, by omega⟩
      simp only [PyData.depth, PyData.depthAll]; omega
    · have e : (ms (m + 1) (.tuple [.str w, .str x])).1 = 1 := rfl
      rw [e] at le ⊢
      obtain ⟨n, rfl⟩ : ∃ k, n = k + 1 := ⟨n - 1, by omega⟩
      refine ⟨by rw [fB_nam, hw, hx]; rfl, ?_, by omega⟩
      simp only [PyData.depth, PyData.depthAll]; omega
    · have em' : m = m' := by omega
      subst em'
      have e : (ms (m + 1) (.tuple [.str w, a, b])).1 = max (ms m a).1 (ms m b).1 + 1 := rfl
      rw [e] at le ⊢
      obtain ⟨n, rfl⟩ : ∃ k, n = k + 1 := ⟨n - 1, by omega⟩
      obtain ⟨a1, a2, _⟩ := fB_ms m a n ha (by omega)
      obtain ⟨b1, b2, _⟩ := fB_ms m b n hb (by omega)
      refine ⟨by rw [fB_two, hw, a1, b1]; rfl, ?_, by omega⟩
      rw [depth_row]; omega
theorem kd_down {m : Nat} {d : PyData} (h : kdB m d = true) : fB 30 d = true ∧ d.depth ≤ 30 := by
  unfold kdB at h
  rw [Bool.and_eq_true, Bool.and_eq_true, decide_eq_true_eq] at h
  obtain ⟨a, b, _⟩ := fB_ms m d 30 h.1 h.2.1
  exact ⟨a, Nat.le_trans b h.2.1⟩
/-! ### holes -/
def hoB : PyData → Bool
  | .tuple [.str w] => decide (V.str w = V.str "thing")
  | .tuple [.str w, x] => w1 w && wrB (nmX x)
  | _ => false
def khB (m : Nat) (bk : List (Str × PyData)) (d : PyData) : Bool := knB m bk d && hoB d
def spKh (K : PySem.W.Frag) (m : Nat) : Sp := fun vs H Q _ => ∃ (t : Addr) (v : V) (d : PyData) (bk : List (Str × PyData)), vs = [.ref t, v] ∧ Tab K H t bk ∧ Dq K H v d ∧ txtB d = true ∧ d.depth ≤ m ∧ ∀ H', Same H H' → Q (.bl (khB m bk d)) H'
theorem kn_form {m : Nat} {bk : List (Str × PyData)} {d : PyData} (h : knB m bk d = true) : fB m d = true := by
  unfold knB at h
  rw [Bool.and_eq_true] at h
  exact kd_form h.1
theorem w1_dec (w : Str) : w1 w = decide (V.str w = V.str "name") := rfl
/-! ### the last tick of a name -/
def stemOf (x : Str) : Str := (Txt.rpartition x quo).1
def lastOf (x : Str) : Str := (Txt.rpartition x quo).2.2
def hoOf (y : Str) : Ho := if decide (V.str y = V.str "") = true then .th else .nm y
theorem sub_ok {x : Str} {n : Nat} (h : txtOk x n) (i j : Nat) : txtOk (Builtin.Str.strSub x i j) n := by
  refine ⟨?_, ?_⟩
  · have h1 := h.1
    unfold PyData.strOk
    rw [← Array.all_toList]
    refine List.all_eq_true.mpr fun c m => decide_eq_true (ok_code h1 ?_)
    have m' : c ∈ (x.cps.extract i j).toList := m
    rw [Array.toList_extract] at m'
    exact List.mem_of_mem_drop (List.mem_of_mem_take m')
  · refine Nat.le_trans ?_ h.2
    show (x.cps.extract i j).size ≤ x.cps.size
    rw [Array.size_extract]
    omega
theorem stem_ok {x : Str} {n : Nat} (h : txtOk x n) : txtOk (stemOf x) n ∧ txtOk (lastOf x) n := by
  unfold stemOf lastOf Txt.rpartition
  cases Builtin.Str.lastOccurrence x quo 0 x.length with
  | none => exact ⟨(⟨by decide +kernel, Nat.le_trans (by decide +kernel : Str.length Str.empty ≤ 0) (Nat.zero_le n)⟩ : txtOk Str.empty n), h⟩
  | some i => exact ⟨sub_ok h _ _, sub_ok h _ _⟩
theorem hoOf_ok {y : Str} {n : Nat} (h : txtOk y n) : txtOk (hoT (hoOf y)) n := by
  unfold hoOf
  by_cases z : decide (V.str y = V.str "") = true
  · rw [if_pos z]
    exact ⟨by decide +kernel, Nat.le_trans (by decide +kernel : Str.length (hoT .th) ≤ 0) (Nat.zero_le n)⟩
  · rw [if_neg z]
    exact h
def spMo (K : PySem.W.Frag) : Sp := fun vs H Q _ => ∃ (x : Str), vs = [.str x] ∧ txtOk x 2000 ∧ ∀ (t : Addr) (u : V) (H' : Hp), Same H H' → H' t = some (.tup [.str (stemOf x), u]) → Dq K H' u (hoD (hoOf (lastOf x))) → Q (.ref t) H'
section
variable {P : Program} {w : World} {K : PySem.W.Frag} {mg : Str → Option Value} {base : Heap} {m : Nat}
theorem scKh : FnScope ["table", "value"] ["table", "value"] (defScope sKnHole) := ⟨rfl, rfl, rfl, by decide +kernel, rfl, by decide +kernel, by decide +kernel⟩
theorem scMo : FnScope ["name", "stem", "_", "last"] ["name"] (defScope sMadeOf) := ⟨rfl, rfl, rfl, by decide +kernel, rfl, by decide +kernel, by decide +kernel⟩
theorem ok_knhole {f gK gW : Addr} {fd dK dW : FuncData} (F : Fun K "is_known_hole" "is_known_hole" sKnHole f fd) (KN : Gv P w K mg base 5 "is_known" gK dK ["table", "value"] (spKn K m)) (W : Gv P w K mg base 1 "is_written" gW dW ["text"] spWr) : FnOk P w K mg base CX0 6 f fd ["table", "value"] (spKh K m) := by
  refine F.ok scKh (fun vs H Q E h => ?_) (fun cdv A outer s H vs Q E hr h => ?_)
  · obtain ⟨t, v, d, bk, rfl, _⟩ := h
    rfl
  obtain ⟨t, v, d, bk, rfl, tb, hd, ht, hdp, q⟩ := h
  have hr1 : Room 1 (A.deeper _) := hr.mono (by omega)
  refine ⟨_, pss_cons (ps_if (pt_not (pt_val (pe_call KN.ok hr rfl KN.m KN.k KN.b .nil pass0 (pa_cons (pv 0) (pa_cons (pv 1) pa_nil))))) (pss_one (ps_ret pe_bl)) pss_nil)
    (pss_one (ps_ret (pe_or (pe_cmpR op_eq (pe_ix ix_tup (pv 1) pe_int (fun _ _ => rfl)) pe_str (nomark _)) (pe_one (pe_and (pe_cmpR op_eq (pe_ix ix_tup (pv 1) pe_int (fun _ _ => rfl)) pe_str (nomark _)) (pe_one (pe_call W.ok hr1 rfl W.m W.k W.b .nil pass0 (pa_cons (pe_ix ix_tup (pv 1) pe_int (fun _ _ => rfl)) pa_nil)))))))), ?_⟩
  have z3 : ∀ {k : Nat}, k ≤ 2000 → k ≤ sizeLine := fun h => Nat.le_trans h (by decide)
  refine ⟨_, rfl, _, rfl, t, v, d, bk, rfl, tb, hd, ht, hdp, fun H1 s1 => ⟨_, rfl, ?_⟩⟩
  unfold khB at q
  cases hk : knB m bk d with
  | false =>
    rw [hk] at q
    exact iteT (q H1 s1)
  | true =>
    rw [hk, Bool.true_and] at q
    refine iteF ?_
    have hd1 := Dq.mono s1 _ _ hd
    rcases fB_cases (kn_form hk) with ⟨w, rfl, hw⟩ | ⟨w, x, rfl, hw, _⟩ | ⟨m', w, a, b, en, rfl, hw, ha, hb⟩
    · obtain ⟨ad, xs, rfl, hx, hA⟩ := dq_tuple hd1
      obtain ⟨x0, rs, rfl, g0, hA⟩ := dqAll_cons hA
      cases g0
      have e : hoB (.tuple [.str w]) = decide (V.str w = V.str "thing") := rfl
      rw [e] at q
      refine ⟨_, rfl, ad, _, 0, _, rfl, rfl, hx, atI_nat (j := 0) rfl, rfl, _, rfl, ?_⟩
      cases hz : decide (V.str w = V.str "thing") with
      | true =>
        rw [hz] at q
        exact iteT (q H1 s1)
      | false =>
        rw [hz] at q
        have no : decide (V.str w = V.str "name") = false := by rcases w_three hw with rfl | rfl | rfl <;> decide +kernel
        refine iteF ⟨_, rfl, ad, _, 0, _, rfl, rfl, hx, atI_nat (j := 0) rfl, rfl, _, rfl, ?_⟩
        rw [no]
        exact iteF (q H1 s1)
    · have hw' := w_one hw
      injection hw' with hw'
      subst hw'
      have tt : (txtB (.str "name") && (txtB (.str x) && true)) = true := ht
      simp only [Bool.and_eq_true] at tt
      have tx' : (PyData.strOk x && decide (x.length ≤ 2000)) = true := tt.2.1
      rw [Bool.and_eq_true, decide_eq_true_eq] at tx'
      obtain ⟨ad, xs, rfl, hx, hA⟩ := dq_tuple hd1
      obtain ⟨x0, rs, rfl, g0, hA⟩ := dqAll_cons hA
      obtain ⟨x1, rs, rfl, g1, hA⟩ := dqAll_cons hA
      cases g0
      cases g1
      have e : hoB (.tuple [.str "name", .str x]) = wrB x := by
        show (w1 "name" && wrB x) = _
        rw [hw]
        rfl
      rw [e] at q
      have no : decide (V.str "name" = V.str "thing") = false := by decide +kernel
      refine ⟨_, rfl, ad, _, 0, _, rfl, rfl, hx, atI_nat (j := 0) rfl, rfl, _, rfl, ?_⟩
      rw [no]
      refine iteF ⟨_, rfl, ad, _, 0, _, rfl, rfl, hx, atI_nat (j := 0) rfl, rfl, _, rfl, ?_⟩
      refine iteT ⟨_, rfl, ad, _, 1, _, rfl, rfl, hx, atI_nat (j := 1) rfl, x, rfl, z3 tx'.2, tx'.1, fun H2 s2 => q H2 (s1.trans s2)⟩
    · obtain ⟨ad, xs, rfl, hx, hA⟩ := dq_tuple hd1
      obtain ⟨x0, rs, rfl, g0, hA⟩ := dqAll_cons hA
      cases g0
      have e : hoB (.tuple [.str w, a, b]) = false := rfl
      rw [e] at q
      have no : decide (V.str w = V.str "thing") = false := by rcases w_two hw with z | z <;> rw [z] <;> decide +kernel
      have no2 : decide (V.str w = V.str "name") = false := by rcases w_two hw with z | z <;> rw [z] <;> decide +kernel
      refine ⟨_, rfl, ad, _, 0, _, rfl, rfl, hx, atI_nat (j := 0) rfl, rfl, _, rfl, ?_⟩
      rw [no]
      refine iteF ⟨_, rfl, ad, _, 0, _, rfl, rfl, hx, atI_nat (j := 0) rfl, rfl, _, rfl, ?_⟩
      rw [no2]
      exact iteF (q H1 s1)
theorem ok_madeof {f : Addr} {fd : FuncData} (F : Fun K "made_of" "made_of" sMadeOf f fd) (N : Nc K mg) : FnOk P w K mg base CX0 1 f fd ["name"] (spMo K) := by
  refine F.ok scMo (fun vs H Q E h => ?_) (fun cdv A outer s H vs Q E hr h => ?_)
  · obtain ⟨x, rfl, _⟩ := h
    rfl
  obtain ⟨x, rfl, tx, q⟩ := h
  obtain ⟨aT, mT, dT⟩ := N.thing
  refine ⟨_, pss_cons (ps_asg (pe_rpartition (pv 0) pe_str) (pg_tup rfl (pgs_cons (pg_name (i := 1) scMo.nd rfl (.inl rfl)) (pgs_cons (pg_name (i := 2) scMo.nd rfl (.inl rfl)) (pgs_cons (pg_name (i := 3) scMo.nd rfl (.inl rfl)) pgs_nil)))))
    (pss_one (ps_ret (pe_tup (pa_cons (pv 1) (pa_cons (pe_ifExp (pt_cmpR op_eq (pv 3) pe_str (nomark _)) (pe_glob (v := .ref aT) rfl mT rfl) (pe_tupN (pa_cons pe_str (pa_cons (pv 3) pa_nil)))) pa_nil))))), ?_⟩
  have z3 : ∀ {k : Nat}, k ≤ 2000 → k ≤ sizeLine := fun h => Nat.le_trans h (by decide)
  have lx := tx.2
  refine ⟨_, rfl, ⟨_, rfl⟩, x, quo, rfl, rfl, by decide, z3 (by omega), fun p hp => ?_⟩
  have sp := same_new hp (.tup [.str (stemOf x), .str (Txt.rpartition x quo).2.1, .str (lastOf x)])
  have ep : upd H p (.tup [.str (stemOf x), .str (Txt.rpartition x quo).2.1, .str (lastOf x)]) p = some (.tup [.str (stemOf x), .str (Txt.rpartition x quo).2.1, .str (lastOf x)]) := upd_same
  have fin : ∀ (u : V) (H2 : Hp), Same (upd H p (.tup [.str (stemOf x), .str (Txt.rpartition x quo).2.1, .str (lastOf x)])) H2 → Dq K H2 u (hoD (hoOf (lastOf x))) → [V.str (stemOf x), u].length ≤ sizeLine ∧ ∀ t, H2 t = none → Q (.ref t) (upd H2 t (.tup [.str (stemOf x), u])) := fun u H2 s2 D =>
    ⟨z3 (by show 2 ≤ 2000; decide), fun t ht => q t u _ (sp.trans (s2.trans (same_new ht _))) upd_same (Dq.mono (same_new ht _) _ _ D)⟩
  refine ⟨p, _, rfl, SqT.of ep, rfl, _, _, rfl, _, _, rfl, _, _, rfl, rfl, ?_⟩
  refine ⟨_, rfl, _, rfl, rfl, _, rfl, ?_⟩
  show if decide (V.str (lastOf x) = V.str "") = true then _ else _
  cases hz : decide (V.str (lastOf x) = V.str "") with
  | true =>
    have e : hoOf (lastOf x) = .th := if_pos hz
    rw [e] at fin
    exact iteT (fin _ _ (Same.refl _) (dT _))
  | false =>
    have e : hoOf (lastOf x) = .nm (lastOf x) := if_neg (by rw [hz]; exact Bool.false_ne_true)
    rw [e] at fin
    exact iteF ⟨_, rfl, z3 (by show 2 ≤ 2000; decide), fun t2 o2 h2 e2 => fin _ _ (same_new h2 _) (dq_row1 upd_same e2 (.str _))⟩
/-! ### a name by a hole has the kind that the rules make -/
def ruB (m : Nat) (bk : List (Str × PyData)) (x : Str) (d : PyData) : Bool := wrB x || match lookB bk (stemOf x) with
  | some k => khB m bk (hoD (hoOf (lastOf x))) && PyData.eqv d (kmd 30 k (hoOf (lastOf x)))
  | none => false
/-- each kind of the book is one -/
def BkOk (m : Nat) (bk : List (Str × PyData)) : Prop := ∀ p ∈ bk, kdB m p.2 = true ∧ txtB p.2 = true ∧ p.2.depth ≤ m
theorem look_mem {bk : List (Str × PyData)} {x : Str} {d : PyData} (h : lookB bk x = some d) : ∃ p ∈ bk, p.1 = x ∧ p.2 = d := by
  unfold lookB at h
  cases e : bk.find? fun p => decide (p.1 = x) with
  | none => rw [e] at h; cases h
  | some p =>
    rw [e] at h
    exact ⟨p, List.mem_of_find?_eq_some e, (by have z := List.find?_some e; exact of_decide_eq_true z), Option.some.inj h⟩
def spRu (K : PySem.W.Frag) (m : Nat) : Sp := fun vs H Q _ => ∃ (t : Addr) (x : Str) (d : PyData) (bk : List (Str × PyData)), vs = [.ref t, .str x] ∧ Tab K H t bk ∧ BkOk m bk ∧ txtOk x 60 ∧ lookB bk x = some d ∧ ∀ H', Same H H' → Q (.bl (ruB m bk x d)) H'
theorem scRu : FnScope ["table", "name", "stem", "hole"] ["table", "name"] (defScope sByRules) := ⟨rfl, rfl, rfl, by decide +kernel, rfl, by decide +kernel, by decide +kernel⟩
theorem hoD_txt {h : Ho} (k : hoOk h) : txtB (hoD h) = true := by
  cases h with
  | th => decide +kernel
  | nm y =>
    have k' : txtOk y 60 := k
    show ((PyData.strOk "name" && decide (Str.length "name" ≤ 2000)) && ((PyData.strOk y && decide (y.length ≤ 2000)) && true)) = true
    rw [k'.1, decide_eq_true (show y.length ≤ 2000 by have := k'.2; omega)]
    decide +kernel
theorem hoD_d1 (h : Ho) : (hoD h).depth ≤ 1 := by
  cases h with
  | th => decide
  | nm y => simp only [hoD, PyData.depth, PyData.depthAll]; omega
theorem ok_byrules {f gW gM gH gK : Addr} {fd dW dM dH dK : FuncData} (h1 : 1 ≤ m) (F : Fun K "is_made_by_rules" "is_made_by_rules" sByRules f fd) (W : Gv P w K mg base 1 "is_written" gW dW ["text"] spWr) (MO : Gv P w K mg base 1 "made_of" gM dM ["name"] (spMo K))
    (KH : Gv P w K mg base 6 "is_known_hole" gH dH ["table", "value"] (spKh K m)) (KM : Gv P w K mg base 62 "kind_made" gK dK ["kind", "hole"] (spKm K 30)) : FnOk P w K mg base CX0 63 f fd ["table", "name"] (spRu K m) := by
  refine F.ok scRu (fun vs H Q E h => ?_) (fun cdv A outer s H vs Q E hr h => ?_)
  · obtain ⟨t, x, d, bk, rfl, _⟩ := h
    rfl
  obtain ⟨t, x, d, bk, rfl, tb, bo, tx, hl, q⟩ := h
  have hr1 : Room 1 (A.deeper _) := hr.mono (by omega)
  have hr6 : Room 6 (A.deeper _) := hr.mono (by omega)
  have hu1 := Nat.lt_of_le_of_lt (Nat.add_le_add_left (by decide : 1 ≤ 64) _) hr.units
  refine ⟨_, pss_cons (ps_if (pt_val (pe_call W.ok hr1 rfl W.m W.k W.b .nil pass0 (pa_cons (pv 1) pa_nil))) (pss_one (ps_ret pe_bl)) pss_nil)
    (pss_cons (ps_asg (pe_call MO.ok hr1 rfl MO.m MO.k MO.b .nil pass0 (pa_cons (pv 1) pa_nil)) (pg_tup rfl (pgs_cons (pg_name (i := 2) scRu.nd rfl (.inl rfl)) (pgs_cons (pg_name (i := 3) scRu.nd rfl (.inl rfl)) pgs_nil))))
    (pss_cons (ps_if (PW.pt (pw_or (pt_cmp (pc_dnotin hu1 (pv 2) (pv 0))) (pw_or1 (pt_not (pt_val (pe_call KH.ok hr6 rfl KH.m KH.k KH.b .nil pass0 (pa_cons (pv 0) (pa_cons (pv 3) pa_nil)))))))) (pss_one (ps_ret pe_bl)) pss_nil)
    (pss_one (ps_ret (pe_cmpR (op_eqD hr.units) (pe_dget hu1 (pv 0) (pv 1) (fun _ _ => rfl)) (pe_call KM.ok hr rfl KM.m KM.k KM.b .nil pass0 (pa_cons (pe_dget hu1 (pv 0) (pv 2) (fun _ _ => rfl)) (pa_cons (pv 3) pa_nil))) (nomark _)))))), ?_⟩
  have z3 : ∀ {k : Nat}, k ≤ 2000 → k ≤ sizeLine := fun h => Nat.le_trans h (by decide)
  have lx := tx.2
  refine ⟨_, rfl, x, rfl, z3 (by omega), tx.1, fun H1 s1 => ⟨_, rfl, ?_⟩⟩
  unfold ruB at q
  cases hw : wrB x with
  | true =>
    rw [hw, Bool.true_or] at q
    exact iteT (q H1 s1)
  | false =>
    rw [hw, Bool.false_or] at q
    refine iteF ⟨_, rfl, x, rfl, txt_up tx (by omega), fun p u H2 s2 hp D => ?_⟩
    obtain ⟨ts, tl⟩ := stem_ok tx
    have hk : hoOk (hoOf (lastOf x)) := hoOf_ok tl
    have tb2 := tb.on (s1.trans s2)
    refine ⟨p, _, rfl, SqT.of hp, rfl, _, _, rfl, _, _, rfl, rfl, ?_⟩
    rcases tb2.get (stemOf x) with ⟨g, l⟩ | ⟨v, k, g, l, Dk⟩
    · rw [l] at q
      refine ⟨_, rfl, _, rfl, t, _, rfl, g, _, rfl, ?_⟩
      exact iteT (iteT (q H2 (s1.trans s2)))
    · rw [l] at q
      obtain ⟨pk, pt, pd⟩ : kdB m k = true ∧ txtB k = true ∧ k.depth ≤ m := by
        obtain ⟨pr, pm, _, e⟩ := look_mem l
        rw [← e]
        exact bo pr pm
      obtain ⟨dk, dt, ddp⟩ : kdB m d = true ∧ txtB d = true ∧ d.depth ≤ m := by
        obtain ⟨pr, pm, _, e⟩ := look_mem hl
        rw [← e]
        exact bo pr pm
      have q' : ∀ H', Same H H' → Q (.bl (khB m bk (hoD (hoOf (lastOf x))) && PyData.eqv d (kmd 30 k (hoOf (lastOf x))))) H' := q
      clear q
      refine ⟨_, rfl, _, rfl, t, _, rfl, g, _, rfl, ?_⟩
      refine iteF ⟨_, rfl, _, rfl, t, u, _, bk, rfl, tb2, D, hoD_txt hk, Nat.le_trans (hoD_d1 _) h1, fun H3 s3 => ⟨_, rfl, ?_⟩⟩
      cases hh : khB m bk (hoD (hoOf (lastOf x))) with
      | false =>
        rw [hh, Bool.false_and] at q'
        exact iteT (q' H3 (s1.trans (s2.trans s3)))
      | true =>
        rw [hh, Bool.true_and] at q'
        have tb3 := tb2.on s3
        obtain ⟨g1, l1⟩ | ⟨v1, d1, g1, l1, D1⟩ := tb3.get x
        · rw [hl] at l1; cases l1
        obtain ⟨g2, l2⟩ | ⟨v2, d2, g2, l2, D2⟩ := tb3.get (stemOf x)
        · rw [l] at l2; cases l2
        rw [hl] at l1
        rw [l] at l2
        cases l1
        cases l2
        obtain ⟨f1, z1⟩ := kd_down dk
        obtain ⟨f2, z2⟩ := kd_down pk
        refine iteF ⟨_, rfl, _, rfl, t, v1, rfl, g1, _, rfl, _, rfl, t, v2, rfl, g2, _, rfl, ?_⟩
        refine ⟨v2, u, k, _, rfl, D2, f2, pt, by omega, Dq.mono s3 _ _ D, hk, fun v3 H4 s4 D3 => ?_⟩
        have st := kmd_st 30 k (hoOf (lastOf x)) f2 pt hk
        have dp := kmd_depth 30 k (hoOf (lastOf x)) f2
        have sd := fB_st 30 d f1 dt
        exact ⟨d, _, Dq.dp _ _ sd (Dq.mono s4 _ _ D1), Dq.dp _ _ st D3, shp sd (by omega), shp st (by omega), q' H4 (s1.trans (s2.trans (s3.trans s4)))⟩
end
end Toy
set_option Elab.async false
set_option linter.all false
set_option maxRecDepth 100000
set_option maxHeartbeats 2000000
namespace Toy
open PySem L2 PyProof.Rows
abbrev sPairAb : Stmt := top 31
abbrev sChkP : Stmt := top 30
/-! ### the pairs of a book -/
def lessS (a b : Str) : Bool := decide (a.cps.toList < b.cps.toList)
def rowN : PyData → Str
  | .tuple [x, _] => nmX x
  | _ => ""
def rowK : PyData → PyData
  | .tuple [_, k] => k
  | _ => .none
/-- a pair of a name above p and a kind -/
def pairB (m : Nat) (p : Str) : PyData → Bool
  | .tuple [x, k] => nmB x && (lessS p (nmX x) && kdB m k)
  | _ => false
def upB (m : Nat) : Str → List PyData → Bool
  | _, [] => true
  | p, r :: rs => pairB m p r && upB m (rowN r) rs
theorem nmB_str {d : PyData} (h : nmB d = true) : ∃ x, d = .str x := by
  cases d with
  | str x => exact ⟨x, rfl⟩
  | _ => cases h
theorem ne_two {n : Nat} (h : (!decide (V.int (n : Int) = V.int 2)) = true) : n ≠ 2 := by
  intro e
  subst e
  exact absurd h (by decide)
theorem eq_two {n : Nat} (h : ¬ (!decide (V.int (n : Int) = V.int 2)) = true) : n = 2 := by
  by_cases z : V.int (n : Int) = V.int 2
  · injection z with z
    omega
  · exact absurd (by rw [decide_eq_false z]; rfl) h
def spPa (K : PySem.W.Frag) (m : Nat) : Sp := fun vs H Q _ => ∃ (p : Str) (v : V) (d : PyData), vs = [.str p, v] ∧ Dq K H v d ∧ txtB d = true ∧ d.depth ≤ m ∧ ∀ H', Same H H' → Q (.bl (pairB m p d)) H'
section
variable {P : Program} {w : World} {K : PySem.W.Frag} {mg : Str → Option Value} {base : Heap} {m : Nat}
theorem scPa : FnScope ["ahead", "row"] ["ahead", "row"] (defScope sPairAb) := ⟨rfl, rfl, rfl, by decide +kernel, rfl, by decide +kernel, by decide +kernel⟩
theorem ok_pairab {f gN gK : Addr} {fd dN dK : FuncData} (F : Fun K "is_pair_above" "is_pair_above" sPairAb f fd) (T : Nk mg) (U : Nt mg) (N : Nu mg) (NM : Gv P w K mg base 2 "is_name" gN dN ["value"] (spNm K)) (IK : Gv P w K mg base 5 "is_kind" gK dK ["value"] (spIk K m)) : FnOk P w K mg base CX0 6 f fd ["ahead", "row"] (spPa K m) := by
  refine F.ok scPa (fun vs H Q E h => ?_) (fun cdv A outer s H vs Q E hr h => ?_)
  · obtain ⟨p, v, d, rfl, _⟩ := h
    rfl
  obtain ⟨p, v, d, rfl, hd, ht, hdp, q⟩ := h
  have hr2 : Room 2 (A.deeper _) := hr.mono (by omega)
  refine ⟨_, pss_cons (ps_if (PW.pt (pw_or (pt_cmpR op_neTy (pe_callTy call_tyD rfl U.type (by decide +kernel) (pa_cons (pv 1) pa_nil)) (pe_bltn (v := .ty "tuple") rfl N.tuple (by decide +kernel) rfl (by decide) (by decide)) (nomark _))
      (pw_or1 (pt_cmpR op_ne (pe_callB call_len_seq rfl T.len PySem.boot_len (pa_cons (pv 1) pa_nil)) pe_int (nomark _))))) (pss_one (ps_ret pe_bl)) pss_nil)
    (pss_one (ps_ret (pe_and (pe_call NM.ok hr2 rfl NM.m NM.k NM.b .nil pass0 (pa_cons (pe_ix ix_tup (pv 1) pe_int (fun _ _ => rfl)) pa_nil)) (pe_and (pe_cmpR op_gt_str (pe_ix ix_tup (pv 1) pe_int (fun _ _ => rfl)) (pv 0) (nomark _)) (pe_one (pe_call IK.ok hr rfl IK.m IK.k IK.b .nil pass0 (pa_cons (pe_ix ix_tup (pv 1) pe_int (fun _ _ => rfl)) pa_nil))))))), ?_⟩
  refine ⟨_, rfl, _, d, rfl, hd, d, "tuple", rfl, rfl, TypeEq.meta_tuple, _, rfl, ?_⟩
  have no : pairB m p d = false → Q (.bl false) H := fun e => by
    have z := q H (Same.refl H)
    rw [e] at z
    exact z
  refine ite2 (fun h => ?_) (fun h => ?_)
  · refine no ?_
    cases d with
    | tuple ds => exact absurd rfl (notT h)
    | _ => rfl
  obtain ⟨ds, rfl⟩ := tup_of (isT h)
  obtain ⟨a, xs, rfl, hx, hA⟩ := dq_tuple hd
  have hl : xs.length = ds.length := hA.len
  refine ⟨_, rfl, a, _, rfl, .inr hx, rfl, _, rfl, ?_⟩
  refine ite2 (fun g => ?_) (fun g => ?_)
  · refine no ?_
    have g' := ne_two g
    rw [hl] at g'
    rcases ds with _ | ⟨d1, _ | ⟨d2, _ | ⟨d3, r⟩⟩⟩
    · rfl
    · rfl
    · exact absurd rfl g'
    · rfl
  obtain ⟨d1, d2, rfl⟩ : ∃ d1 d2, ds = [d1, d2] := by
    have g' := eq_two g
    rw [hl] at g'
    rcases ds with _ | ⟨d1, _ | ⟨d2, _ | ⟨d3, r⟩⟩⟩
    · cases g'
    · cases g'
    · exact ⟨d1, d2, rfl⟩
    · simp only [List.length_cons] at g'
      omega
  obtain ⟨x1, rs, rfl, g1, hA⟩ := dqAll_cons hA
  obtain ⟨x2, rs, rfl, g2, hA⟩ := dqAll_cons hA
  have tt : (txtB d1 && (txtB d2 && true)) = true := ht
  simp only [Bool.and_eq_true] at tt
  have dd : d2.depth ≤ m := by
    simp only [PyData.depth, PyData.depthAll] at hdp
    omega
  refine ⟨_, rfl, a, _, 0, _, rfl, rfl, hx, atI_nat (j := 0) rfl, x1, d1, rfl, g1, tt.1, fun H1 s1 => ⟨_, rfl, ?_⟩⟩
  have e : pairB m p (.tuple [d1, d2]) = (nmB d1 && (lessS p (nmX d1) && kdB m d2)) := rfl
  rw [e] at q
  cases hn : nmB d1 with
  | false =>
    rw [hn, Bool.false_and] at q
    exact iteF (q H1 s1)
  | true =>
    rw [hn, Bool.true_and] at q
    obtain ⟨x, rfl⟩ := nmB_str hn
    cases g1
    refine iteT ⟨_, rfl, a, _, 0, _, rfl, rfl, s1.seqT hx, atI_nat (j := 0) rfl, _, rfl, x, p, rfl, rfl, _, rfl, ?_⟩
    show if lessS p x = true then _ else _
    have q' : ∀ H', Same H H' → Q (.bl (lessS p x && kdB m d2)) H' := q
    cases hls : lessS p x with
    | false =>
      rw [hls, Bool.false_and] at q'
      exact iteF (q' H1 s1)
    | true =>
      rw [hls, Bool.true_and] at q'
      exact iteT ⟨_, rfl, a, _, 1, _, rfl, rfl, s1.seqT hx, atI_nat (j := 1) rfl, x2, d2, rfl, Dq.mono s1 _ _ g2, tt.2.1, dd, fun H2 s2 => q' H2 (s1.trans s2)⟩
end
end Toy
set_option Elab.async false
set_option linter.all false
set_option maxRecDepth 100000
set_option maxHeartbeats 2000000
namespace L2
open PySem PySem.Spec PyProof.Rows
theorem walk_enumT {K : PySem.W.Frag} {a : Addr} {xs : List V} : Walk (IteT K a) xs.length (fun H => SqT K H a xs) (YPair (fun i => some (.int (i : Nat))) (fun i => xs[i]?)) := by
  refine ⟨fun i _ hi q => ⟨xs, xs[i], q, by simp [hi]⟩, fun _ q => ⟨xs, q, Nat.le_refl _⟩, fun i H v H' _ q y => ?_⟩
  obtain ⟨T, x, h1, h2, h3, h4⟩ := y
  exact ⟨T, .int (i : Nat), x, h1, h2, h3, rfl, h4 xs q⟩
end L2
namespace Toy
open PySem L2 PyProof.Rows
/-- the class InvalidBook at C -/
structure Eb (P : Program) (w : World) (K : PySem.W.Frag) (mg : Str → Option Value) (base : Heap) (C : Addr) : Prop where
  mkr : Mkr P w K mg base C 1 [] (fun vs => match vs with | [x] => [("index", x)] | _ => [])
  b : PySem.W.subIn K (.ref C) (.type "BaseException") = some true
  t : PySem.W.typeIn K (.ref C) = some (.type "type")
  m : mg "InvalidBook" = some (.ref C)
  k : PySem.W.keepIn K (.ref C) = true
  x : PySem.W.exmOne K (.ref C) (.ref C) = some true
structure Nv (mg : Str → Option Value) : Prop where
  most : ∃ t, mg "MOST_NAMES" = some (.int 80 t)
  enum : mg "enumerate" = none
  dict : mg "dict" = none
def cpB (m : Nat) : PyData → Bool
  | .tuple ds => decide (ds.length ≤ 80) && upB m "" ds
  | _ => false
def spCp (K : PySem.W.Frag) (m : Nat) (C : Addr) : Sp := fun vs H Q E => ∃ (v : V) (d : PyData), vs = [v] ∧ Dq K H v d ∧ txtB d = true ∧ d.depth ≤ m ∧ (cpB m d = true → ∀ H', Same H H' → Q .non H') ∧
  (cpB m d = false → ∀ H' dd, Same H H' → E (.ref C) (some dd) H')
theorem dA_mem' {d : PyData} : ∀ {l : List PyData}, d ∈ l → d.depth ≤ PyData.depthAll l
  | x :: r, h => by
    rw [show PyData.depthAll (x :: r) = max x.depth (PyData.depthAll r) from rfl]
    rcases List.mem_cons.mp h with rfl | h
    · exact Nat.le_max_left _ _
    · exact Nat.le_trans (dA_mem' h) (Nat.le_max_right _ _)
theorem txt_mem {d : PyData} : ∀ {l : List PyData}, txtAll l = true → d ∈ l → txtB d = true
  | x :: r, t, h => by
    have t' : (txtB x && txtAll r) = true := t
    rw [Bool.and_eq_true] at t'
    rcases List.mem_cons.mp h with rfl | h
    · exact t'.1
    · exact txt_mem t'.2 h
section
variable {P : Program} {w : World} {K : PySem.W.Frag} {mg : Str → Option Value} {base : Heap} {m : Nat} {C : Addr}
theorem scCp : FnScope ["book", "ahead", "at", "row"] ["book"] (defScope sChkP) := ⟨rfl, rfl, rfl, by decide +kernel, rfl, by decide +kernel, by decide +kernel⟩
theorem ok_check {f gP : Addr} {fd dP : FuncData} (F : Fun K "check_pairs" "check_pairs" sChkP f fd) (T : Nk mg) (U : Nt mg) (N : Nu mg) (V' : Nv mg) (B : Eb P w K mg base C) (PA' : Gv P w K mg base 6 "is_pair_above" gP dP ["ahead", "row"] (spPa K m)) : FnOk P w K mg base (L2.CX P w) 7 f fd ["book"] (spCp K m C) := by
  refine F.okX scCp (fun vs H Q E h => ?_) (fun cdv A outer s H vs Q E hr h => ?_)
  · obtain ⟨v, d, rfl, _⟩ := h
    rfl
  obtain ⟨v, d, rfl, hd, ht, hdp, q, qx⟩ := h
  obtain ⟨t8, h8⟩ := V'.most
  refine ⟨_, pss_cons (ps_if (PW.pt (pw_or (pt_cmpR op_neTy (pe_callTy call_tyD rfl U.type (by decide +kernel) (pa_cons (pv 0) pa_nil)) (pe_bltn (v := .ty "tuple") rfl N.tuple (by decide +kernel) rfl (by decide) (by decide)) (nomark _))
      (pw_or1 (pt_cmpR op_gt (pe_callB call_len_seq rfl T.len PySem.boot_len (pa_cons (pv 0) pa_nil)) (pe_glob (v := .int 80) rfl h8 ⟨_, rfl⟩) (nomark _)))))
      (pss_one (ps_raise rfl (takes_of rfl rfl rfl rfl) (pmk_mkr B.mkr (raises_own B.b B.t) hr rfl B.m B.k (pa_cons pe_non pa_nil)))) pss_nil)
    (pss_cons (ps_set (i := 1) scCp.nd rfl (.inl rfl) pe_str)
    (pss_one (ps_for (passes_of rfl) rfl (pi_enumT (by rfl) V'.enum (pa_cons (pv 0) pa_nil)) (pg_tup rfl (pgs_cons (pg_name (i := 2) scCp.nd rfl (.inl rfl)) (pgs_cons (pg_name (i := 3) scCp.nd rfl (.inl rfl)) pgs_nil)))
      (pss_cons (ps_if (pt_not (pt_val (pe_call PA'.ok hr rfl PA'.m PA'.k PA'.b .nil pass0 (pa_cons (pv 1) (pa_cons (pv 3) pa_nil))))) (pss_one (ps_raise rfl (takes_of rfl rfl rfl rfl) (pmk_mkr B.mkr (raises_own B.b B.t) hr rfl B.m B.k (pa_cons (pv 2) pa_nil)))) pss_nil)
      (pss_one (ps_set (i := 1) scCp.nd rfl (.inl rfl) (pe_ix ix_tup (pv 3) pe_int (fun _ _ => rfl)))))))), ?_⟩
  refine ⟨_, rfl, _, d, rfl, hd, d, "tuple", rfl, rfl, TypeEq.meta_tuple, _, rfl, ?_⟩
  refine ite2 (fun h => ?_) (fun h => ?_)
  · have e : cpB m d = false := by
      cases d with
      | tuple ds => exact absurd rfl (notT h)
      | _ => rfl
    exact ⟨rfl, rfl, fun dd hdd => qx e _ dd (same_new hdd _)⟩
  obtain ⟨ds, rfl⟩ := tup_of (isT h)
  obtain ⟨a, xs, rfl, hx, hA⟩ := dq_tuple hd
  have hl : xs.length = ds.length := hA.len
  refine ⟨_, rfl, a, _, rfl, .inr hx, _, _, rfl, rfl, _, rfl, ?_⟩
  refine ite2 (fun g => ?_) (fun g => ?_)
  · have g' : (xs.length : Int) > 80 := of_decide_eq_true g
    have e : cpB m (.tuple ds) = false := by
      show (decide (ds.length ≤ 80) && upB m "" ds) = false
      rw [decide_eq_false (by omega)]
      rfl
    exact ⟨rfl, rfl, fun dd hdd => qx e _ dd (same_new hdd _)⟩
  have g' : ¬ (xs.length : Int) > 80 := of_decide_eq_false (Bool.eq_false_iff.mpr g)
  have ec : cpB m (.tuple ds) = upB m "" ds := by
    show (decide (ds.length ≤ 80) && upB m "" ds) = _
    rw [decide_eq_true (by omega)]
    rfl
  rw [ec] at q qx
  have dm : ∀ r ∈ ds, r.depth ≤ m := fun r mr => by
    have := dA_mem' mr
    have hd' : PyData.depthAll ds + 1 ≤ m := hdp
    omega
  have tm : ∀ r ∈ ds, txtB r = true := fun r mr => txt_mem (show txtAll ds = true from ht) mr
  refine ⟨_, rfl, a, xs, rfl, hx, ?_⟩
  refine for_it (walk_enumT (xs := xs)) (fun i σ H' => ∃ p c2 c3, σ = [some (.ref a), some (.str p), c2, c3] ∧ Same H H' ∧ upB m p (ds.drop i) = upB m "" ds) ⟨"", none, none, rfl, Same.refl H, rfl⟩ (fun i σ H' _ ⟨p, c2, c3, _, z, _⟩ => z.seqT hx) ?_ ?_
  · rintro i y σ H1 H2 hi ⟨p, c2, c3, rfl, s1, hu⟩ ⟨Tt, yi, r, rfl, hT, rfl, hyi, hy⟩
    cases hyi
    obtain ⟨e, he, hde⟩ := dqAll_at _ _ _ hA hy
    have me := List.mem_of_getElem? he
    have s2 := same_new hT (.tup [.int (i : Nat), r])
    have hTT : upd H1 Tt (.tup [.int (i : Nat), r]) Tt = some (.tup [.int (i : Nat), r]) := upd_same
    have s12 := s1.trans s2
    have hdr : ds.drop i = e :: ds.drop (i + 1) := by
      obtain ⟨hlt, hget⟩ := List.getElem?_eq_some_iff.mp he
      rw [List.drop_eq_getElem_cons hlt, hget]
    rw [hdr] at hu
    have hu' : (pairB m p e && upB m (rowN e) (ds.drop (i + 1))) = upB m "" ds := hu
    refine ⟨Tt, _, rfl, SqT.of hTT, rfl, _, _, rfl, _, _, rfl, rfl, ?_⟩
    refine ⟨_, rfl, _, rfl, p, r, e, rfl, Dq.mono s12 _ _ hde, tm e me, dm e me, fun H3 s3 => ⟨_, rfl, ?_⟩⟩
    cases hp : pairB m p e with
    | false =>
      rw [hp, Bool.false_and] at hu'
      exact iteT ⟨_, rfl, rfl, rfl, fun dd hdd => qx hu'.symm _ dd ((s12.trans s3).trans (same_new hdd _))⟩
    | true =>
      rw [hp, Bool.true_and] at hu'
      obtain ⟨y, k, rfl⟩ : ∃ y k, e = .tuple [.str y, k] := by
        unfold pairB at hp
        split at hp
        · rename_i x k
          rw [Bool.and_eq_true] at hp
          obtain ⟨z, rfl⟩ := nmB_str hp.1
          exact ⟨z, k, rfl⟩
        · cases hp
      obtain ⟨ad, zs, rfl, hz, hB⟩ := dq_tuple hde
      obtain ⟨x0, rs, rfl, g0, hB⟩ := dqAll_cons hB
      cases g0
      refine iteF ⟨_, rfl, ad, _, 0, _, rfl, rfl, (s12.trans s3).seqT hz, atI_nat (j := 0) rfl, ?_⟩
      exact ⟨y, _, _, rfl, s12.trans s3, hu'⟩
  · rintro σ H1 ⟨p, c2, c3, rfl, s1, hu⟩
    rw [hl, List.drop_length] at hu
    exact q hu.symm H1 s1
end
end Toy
set_option Elab.async false
set_option linter.all false
set_option maxRecDepth 100000
set_option maxHeartbeats 4000000
namespace Toy
open PySem L2 PyProof.Rows
abbrev sTable : Stmt := top 29
/-! ### a book as its pairs -/
def bkOf : PyData → List (Str × PyData)
  | .tuple ds => ds.map fun r => (rowN r, rowK r)
  | _ => []
def tbB (m : Nat) (d : PyData) : Bool := cpB m d && ((bkOf d).all (fun p => knB m (bkOf d) p.2) && (bkOf d).all fun p => ruB m (bkOf d) p.1 p.2)
theorem less_trans {a b c : Str} (h : lessS a b = true) (h2 : lessS b c = true) : lessS a c = true :=
  decide_eq_true (List.lt_trans (of_decide_eq_true h) (of_decide_eq_true h2))
theorem less_ne {a b : Str} (h : lessS a b = true) : a ≠ b := fun e => by
  subst e
  exact List.lt_irrefl _ (of_decide_eq_true h)
theorem pair_form {m : Nat} {p : Str} {e : PyData} (hp : pairB m p e = true) : ∃ y k, e = .tuple [.str y, k] ∧ nmB (.str y) = true ∧ lessS p y = true ∧ kdB m k = true := by
  unfold pairB at hp
  split at hp
  · rename_i x k
    rw [Bool.and_eq_true, Bool.and_eq_true] at hp
    obtain ⟨z, rfl⟩ := nmB_str hp.1
    exact ⟨z, k, rfl, hp.1, hp.2.1, hp.2.2⟩
  · cases hp
theorem up_rows {m : Nat} : ∀ {ds : List PyData} {p : Str}, upB m p ds = true → (∀ r ∈ ds, ∃ y k, r = .tuple [.str y, k] ∧ nmB (.str y) = true ∧ kdB m k = true ∧ lessS p y = true) ∧ ds.Pairwise fun r s => lessS (rowN r) (rowN s) = true
  | [], _, _ => ⟨fun _ h => (nomatch h), .nil⟩
  | e :: ds, p, h => by
    have h' : (pairB m p e && upB m (rowN e) ds) = true := h
    rw [Bool.and_eq_true] at h'
    obtain ⟨y, k, rfl, h1, h2, h3⟩ := pair_form h'.1
    obtain ⟨i1, i2⟩ := up_rows h'.2
    have hn : rowN (.tuple [.str y, k]) = y := rfl
    rw [hn] at i1
    refine ⟨fun r mr => ?_, .cons (fun r mr => ?_) i2⟩
    · rcases List.mem_cons.mp mr with rfl | mr
      · exact ⟨y, k, rfl, h1, h3, h2⟩
      · obtain ⟨y', k', e', a, b, c⟩ := i1 r mr
        exact ⟨y', k', e', a, b, less_trans h2 c⟩
    · obtain ⟨y', k', rfl, a, b, c⟩ := i1 r mr
      exact c
def Dist (bk : List (Str × PyData)) : Prop := bk.Pairwise fun p q => p.1 ≠ q.1
theorem look_of : ∀ {bk : List (Str × PyData)} {p : Str × PyData}, Dist bk → p ∈ bk → lookB bk p.1 = some p.2
  | q :: bk, p, h, mp => by
    unfold lookB
    rw [List.find?_cons]
    rcases List.mem_cons.mp mp with rfl | mp
    · rw [decide_eq_true rfl]
      rfl
    · have hne : q.1 ≠ p.1 := (List.pairwise_cons.mp h).1 p mp
      rw [decide_eq_false hne]
      exact look_of (List.pairwise_cons.mp h).2 mp
theorem rows_kvs {K : PySem.W.Frag} {H : Hp} : ∀ {xs : List V} {ds : List PyData}, DqAll K H xs ds → (∀ r ∈ ds, ∃ y k, r = .tuple [.str y, k]) →
    ∃ (ps : List Addr) (kvs : List (Key × V)), xs = ps.map V.ref ∧ Paired (fun p kv => SqT K H p [kV kv.1, kv.2]) ps kvs ∧ Paired (TabR K H) kvs (ds.map fun r => (rowN r, rowK r))
  | [], [], .nil, _ => ⟨[], [], rfl, .nil, .nil⟩
  | v :: vs, d :: ds, .cons r t, h => by
    obtain ⟨y, k, rfl⟩ := h d List.mem_cons_self
    obtain ⟨ps, kvs, rfl, h1, h2⟩ := rows_kvs t fun r mr => h r (List.mem_cons_of_mem _ mr)
    obtain ⟨ad, zs, rfl, hz, hB⟩ := dq_tuple r
    obtain ⟨x0, rs, rfl, g0, hB⟩ := dqAll_cons hB
    obtain ⟨x1, rs, rfl, g1, hB⟩ := dqAll_cons hB
    obtain rfl := dqAll_nil hB
    cases g0
    exact ⟨ad :: ps, (.inr y, x1) :: kvs, rfl, .cons hz h1, .cons ⟨rfl, g1⟩ h2⟩
theorem val_none {kvs : List (Key × V)} {k : Key} (h : ∀ kv ∈ kvs, kv.1 ≠ k) : valV kvs k = none := by
  unfold valV
  have e : (kvs.find? fun kv => decide (kv.1 = k)) = none := List.find?_eq_none.mpr fun kv m => by
    rw [decide_eq_false (h kv m)]
    exact Bool.false_ne_true
  rw [e]
  rfl
theorem merge_dist : ∀ {more kvs : List (Key × V)}, (kvs ++ more).Pairwise (fun a b => a.1 ≠ b.1) → mergeK kvs more = kvs ++ more
  | [], kvs, _ => (List.append_nil kvs).symm
  | p :: more, kvs, h => by
    have hn : valV kvs p.1 = none := val_none fun kv m => by
      have := (List.pairwise_append.mp h).2.2 kv m p List.mem_cons_self
      exact this
    show mergeK (putK kvs p.1 p.2) more = _
    rw [putK_new p.2 hn]
    have e : (kvs ++ [(p.1, p.2)]) ++ more = kvs ++ p :: more := by rw [List.append_assoc]; rfl
    rw [merge_dist (by rw [e]; exact h), e]
theorem tabR_mem {K : PySem.W.Frag} {H : Hp} : ∀ {kvs : List (Key × V)} {bk : List (Str × PyData)} {kv : Key × V}, Paired (TabR K H) kvs bk → kv ∈ kvs → ∃ q : Str × PyData, q ∈ bk ∧ kv.1 = Sum.inr q.1
  | _, _, kv, .cons (a := kv0) (b := p) r t, m => by
    rcases List.mem_cons.mp m with rfl | m
    · exact ⟨p, List.mem_cons_self, r.1⟩
    · obtain ⟨q, a, b⟩ := tabR_mem t m
      exact ⟨q, List.mem_cons_of_mem _ a, b⟩
theorem tabR_dist {K : PySem.W.Frag} {H : Hp} : ∀ {kvs : List (Key × V)} {bk : List (Str × PyData)}, Paired (TabR K H) kvs bk → Dist bk → kvs.Pairwise (fun a b => a.1 ≠ b.1)
  | _, _, .nil, _ => .nil
  | _, _, .cons (a := kv) (b := p) r t, h => by
    refine .cons (fun kv' m => ?_) (tabR_dist t (List.pairwise_cons.mp h).2)
    obtain ⟨q, mq, e⟩ := tabR_mem t m
    rw [r.1, e]
    intro z
    injection z with z
    exact (List.pairwise_cons.mp h).1 q mq z
/-- what passes the first look is a row of pairs with names all unlike -/
theorem bk_facts {m : Nat} {ds : List PyData} (h : cpB m (.tuple ds) = true) (ht : txtB (.tuple ds) = true) (hd : (PyData.tuple ds).depth ≤ m) : (∀ r ∈ ds, ∃ y k, r = .tuple [.str y, k]) ∧ Dist (bkOf (.tuple ds)) ∧ BkOk m (bkOf (.tuple ds)) ∧ (∀ p ∈ bkOf (.tuple ds), txtOk p.1 60) ∧ ds.length ≤ 80 := by
  have h' : (decide (ds.length ≤ 80) && upB m "" ds) = true := h
  rw [Bool.and_eq_true, decide_eq_true_eq] at h'
  obtain ⟨h1, h2⟩ := up_rows h'.2
  have tm : ∀ r ∈ ds, txtB r = true := fun r mr => txt_mem (show txtAll ds = true from ht) mr
  have dm : ∀ r ∈ ds, r.depth + 1 ≤ m := fun r mr => by
    have := dA_mem' mr
    have hd' : PyData.depthAll ds + 1 ≤ m := hd
    omega
  refine ⟨fun r mr => let ⟨y, k, e, _⟩ := h1 r mr; ⟨y, k, e⟩, ?_, fun p mp => ?_, fun p mp => ?_, h'.1⟩
  · unfold Dist bkOf
    rw [List.pairwise_map]
    exact h2.imp fun z => less_ne z
  · obtain ⟨r, mr, rfl⟩ := List.mem_map.mp mp
    obtain ⟨y, k, rfl, _, hk, _⟩ := h1 r mr
    have tt : (txtB (.str y) && (txtB k && true)) = true := tm _ mr
    simp only [Bool.and_eq_true] at tt
    have dd := dm _ mr
    simp only [PyData.depth, PyData.depthAll] at dd
    exact ⟨hk, tt.2.1, by show k.depth ≤ m; omega⟩
  · obtain ⟨r, mr, rfl⟩ := List.mem_map.mp mp
    obtain ⟨y, k, rfl, hy, _⟩ := h1 r mr
    have tt : (txtB (.str y) && (txtB k && true)) = true := tm _ mr
    simp only [Bool.and_eq_true] at tt
    have ty : (PyData.strOk y && decide (y.length ≤ 2000)) = true := tt.1
    rw [Bool.and_eq_true] at ty
    have hy' : (decide (y.length ≤ 60) && namL (Txt.split y quo)) = true := hy
    rw [Bool.and_eq_true, decide_eq_true_eq] at hy'
    exact ⟨ty.1, hy'.1⟩
/-- the thing is a tuple, then a plain one -/
def TopP (K : PySem.W.Frag) (H : Hp) (v : V) (d : PyData) : Prop := ∀ ds, d = .tuple ds → ∃ a xs, v = .ref a ∧ SqP K H a xs ∧ DqAll K H xs ds
structure GvX (P : Program) (w : World) (K : PySem.W.Frag) (mg : Str → Option Value) (base : Heap) (k : Nat) (x : Str) (f : Addr) (fd : FuncData) (ps : List Str) (sp : Sp) : Prop where
  ok : FnOk P w K mg base (L2.CX P w) k f fd ps sp
  b : Binds K fd ps []
  k : PySem.W.keepIn K (.ref f) = true
  m : mg x = some (.ref f)
def spTo (K : PySem.W.Frag) (m : Nat) (C : Addr) : Sp := fun vs H Q E => ∃ (v : V) (d : PyData), vs = [v] ∧ Dq K H v d ∧ TopP K H v d ∧ txtB d = true ∧ d.depth ≤ m ∧ (tbB m d = true → ∀ t H', Same H H' → Tab K H' t (bkOf d) → Q (.ref t) H') ∧
  (tbB m d = false → ∀ H' dd, Same H H' → E (.ref C) (some dd) H')
theorem TopP.on {K : PySem.W.Frag} {H H' : Hp} {v : V} {d : PyData} (e : Same H H') (h : TopP K H v d) : TopP K H' v d := fun ds ed => by
  obtain ⟨a, xs, ev, hp, hA⟩ := h ds ed
  exact ⟨a, xs, ev, e.seqP hp, DqAll.mono e _ _ hA⟩
theorem all_drop {α : Type} {f : α → Bool} {l : List α} {i : Nat} {x : α} (h : l[i]? = some x) : (l.drop i).all f = (f x && (l.drop (i + 1)).all f) := by
  obtain ⟨hlt, hget⟩ := List.getElem?_eq_some_iff.mp h
  rw [List.drop_eq_getElem_cons hlt, hget, List.all_cons]
section
variable {P : Program} {w : World} {K : PySem.W.Frag} {mg : Str → Option Value} {base : Heap} {m : Nat} {C : Addr}
theorem scTo : FnScope ["book", "table", "at", "name", "kind"] ["book"] (defScope sTable) := ⟨rfl, rfl, rfl, by decide +kernel, rfl, by decide +kernel, by decide +kernel⟩
theorem ok_table {f gC gK gR : Addr} {fd dC dK dR : FuncData} (F : Fun K "table_of" "table_of" sTable f fd) (V' : Nv mg) (B : Eb P w K mg base C) (CP : GvX P w K mg base 7 "check_pairs" gC dC ["book"] (spCp K m C))
    (KN : Gv P w K mg base 5 "is_known" gK dK ["table", "value"] (spKn K m)) (RU : Gv P w K mg base 63 "is_made_by_rules" gR dR ["table", "name"] (spRu K m)) : FnOk P w K mg base (L2.CX P w) 64 f fd ["book"] (spTo K m C) := by
  refine F.okX scTo (fun vs H Q E h => ?_) (fun cdv A outer s H vs Q E hr h => ?_)
  · obtain ⟨v, d, rfl, _⟩ := h
    rfl
  obtain ⟨v, d, rfl, hd, tp, ht, hdp, q, qx⟩ := h
  have hr5 : Room 5 (A.deeper _) := hr.mono (by omega)
  have hr7 : Room 7 (A.deeper _) := hr.mono (by omega)
  refine ⟨_, pss_cons (ps_expr (pe_callS CP.ok hr7 rfl CP.m CP.k CP.b (fun σ => passAt (takes_of rfl rfl rfl rfl) σ) (pa_cons (pv 0) pa_nil)))
    (pss_cons (ps_set (i := 1) scTo.nd rfl (.inl rfl) (pe_callTy (call_dictT rfl) rfl V'.dict (by decide +kernel) (pa_cons (pv 0) pa_nil)))
    (pss_cons (ps_for (passes_of rfl) rfl (pi_enumT (by rfl) V'.enum (pa_cons (pv 0) pa_nil)) (pg_tup rfl (pgs_cons (pg_name (i := 2) scTo.nd rfl (.inl rfl)) (pgs_cons (pg_tup rfl (pgs_cons (pg_name (i := 3) scTo.nd rfl (.inl rfl)) (pgs_cons (pg_name (i := 4) scTo.nd rfl (.inl rfl)) pgs_nil))) pgs_nil)))
      (pss_one (ps_if (pt_not (pt_val (pe_call KN.ok hr5 rfl KN.m KN.k KN.b .nil pass0 (pa_cons (pv 1) (pa_cons (pv 4) pa_nil))))) (pss_one (ps_raise rfl (takes_of rfl rfl rfl rfl) (pmk_mkr B.mkr (raises_own B.b B.t) hr rfl B.m B.k (pa_cons (pv 2) pa_nil)))) pss_nil)))
    (pss_cons (ps_for (passes_of rfl) rfl (pi_enumT (by rfl) V'.enum (pa_cons (pv 0) pa_nil)) (pg_tup rfl (pgs_cons (pg_name (i := 2) scTo.nd rfl (.inl rfl)) (pgs_cons (pg_tup rfl (pgs_cons (pg_name (i := 3) scTo.nd rfl (.inl rfl)) (pgs_cons (pg_name (i := 4) scTo.nd rfl (.inl rfl)) pgs_nil))) pgs_nil)))
      (pss_one (ps_if (pt_not (pt_val (pe_call RU.ok hr rfl RU.m RU.k RU.b .nil pass0 (pa_cons (pv 1) (pa_cons (pv 3) pa_nil))))) (pss_one (ps_raise rfl (takes_of rfl rfl rfl rfl) (pmk_mkr B.mkr (raises_own B.b B.t) hr rfl B.m B.k (pa_cons (pv 2) pa_nil)))) pss_nil)))
    (pss_one (ps_ret (pv 1)))))), ?_⟩
  refine ⟨_, rfl, v, d, rfl, hd, ht, hdp, fun ec H1 s1 => ?_, fun ec H1 dd s1 => qx (by unfold tbB; rw [ec]; rfl) H1 dd s1⟩
  obtain ⟨ds, rfl⟩ : ∃ ds, d = .tuple ds := by
    cases d with
    | tuple ds => exact ⟨ds, rfl⟩
    | _ => cases ec
  obtain ⟨a, xs, rfl, hxP, hA⟩ := tp ds rfl
  obtain ⟨b1, b2, b3, b4, b5⟩ := bk_facts ec ht hdp
  have eq0 : tbB m (.tuple ds) = ((bkOf (.tuple ds)).all (fun p => knB m (bkOf (.tuple ds)) p.2) && (bkOf (.tuple ds)).all fun p => ruB m (bkOf (.tuple ds)) p.1 p.2) := by
    unfold tbB
    rw [ec, Bool.true_and]
  rw [eq0] at q qx
  obtain ⟨ps, kvs, rfl, hps, hkv⟩ := rows_kvs hA b1
  have ebk : (ds.map fun r => (rowN r, rowK r)) = bkOf (.tuple ds) := rfl
  rw [ebk] at hkv
  have hbl : (bkOf (.tuple ds)).length = ds.length := List.length_map ..
  have hget : ∀ {i : Nat} {e : PyData}, ds[i]? = some e → (bkOf (.tuple ds))[i]? = some (rowN e, rowK e) := fun {i e} he => by
    rw [← ebk, List.getElem?_map, he]
    rfl
  generalize bkOf (.tuple ds) = bk at q qx b2 b3 b4 hkv hbl hget
  refine ⟨_, rfl, a, ps, kvs, rfl, s1.seqP hxP, paired_imp (fun p kv z => s1.seqT z) hps, fun t hT => ?_⟩
  have em : mergeK [] kvs = kvs := merge_dist (kvs := []) (tabR_dist hkv b2)
  rw [em]
  have s2 := same_new hT (.dK kvs)
  have s12 := s1.trans s2
  have tb : Tab K (upd H1 t (.dK kvs)) t bk := ⟨kvs, upd_same, paired_imp (fun kv p z => ⟨z.1, Dq.mono s12 _ _ z.2⟩) hkv⟩
  have hx := hxP.seqT
  have hlx : (ps.map V.ref).length = ds.length := hA.len
  generalize upd H1 t (.dK kvs) = H2 at tb s12
  clear s2 em hT hkv hps
  generalize ps.map V.ref = xs at hx hA hlx
  refine ⟨_, rfl, a, xs, rfl, s12.seqT hx, ?_⟩
  refine for_it (walk_enumT (xs := xs)) (fun i σ H' => ∃ c2 c3 c4, σ = [some (.ref a), some (.ref t), c2, c3, c4] ∧ Same H2 H' ∧ (bk.drop i).all (fun p => knB m bk p.2) = bk.all fun p => knB m bk p.2) ⟨none, none, none, rfl, Same.refl H2, rfl⟩ (fun i σ H' _ ⟨c2, c3, c4, _, z, _⟩ => (s12.trans z).seqT hx) ?_ ?_
  · rintro i y σ H3 H4 hi ⟨c2, c3, c4, rfl, s3, hu⟩ ⟨Tt, yi, r, rfl, hT, rfl, hyi, hy⟩
    cases hyi
    obtain ⟨e, he, hde⟩ := dqAll_at _ _ _ hA hy
    obtain ⟨y, k, rfl⟩ := b1 e (List.mem_of_getElem? he)
    have hb := hget he
    have bok := b3 _ (List.mem_of_getElem? hb)
    have s4 := same_new hT (.tup [.int (i : Nat), r])
    have s24 := s3.trans s4
    have hTT : upd H3 Tt (.tup [.int (i : Nat), r]) Tt = some (.tup [.int (i : Nat), r]) := upd_same
    rw [all_drop hb] at hu
    obtain ⟨ad, zs, rfl, hz, hB⟩ := dq_tuple hde
    obtain ⟨x0, rs, rfl, g0, hB⟩ := dqAll_cons hB
    obtain ⟨x1, rs, rfl, g1, hB⟩ := dqAll_cons hB
    obtain rfl := dqAll_nil hB
    cases g0
    refine ⟨Tt, _, rfl, SqT.of hTT, rfl, _, _, rfl, _, _, rfl, ad, _, rfl, (s12.trans s24).seqT hz, rfl, _, _, rfl, _, _, rfl, rfl, rfl, ?_⟩
    refine ⟨_, rfl, _, rfl, t, x1, k, bk, rfl, tb.on s24, Dq.mono (s12.trans s24) _ _ g1, bok.2.1, bok.2.2, fun H5 s5 => ⟨_, rfl, ?_⟩⟩
    have hu' : (knB m bk k && (bk.drop (i + 1)).all fun p => knB m bk p.2) = bk.all fun p => knB m bk p.2 := hu
    cases hp : knB m bk k with
    | false =>
      rw [hp, Bool.false_and] at hu'
      rw [← hu', Bool.false_and] at qx
      exact iteT ⟨_, rfl, rfl, rfl, fun dd hdd => qx rfl _ dd (((s12.trans s24).trans s5).trans (same_new hdd _))⟩
    | true =>
      rw [hp, Bool.true_and] at hu'
      exact iteF ⟨_, _, _, rfl, s24.trans s5, hu'⟩
  · rintro σ H3 ⟨c2, c3, c4, rfl, s3, hu⟩
    rw [hlx, ← hbl, List.drop_length] at hu
    have hu' : true = bk.all fun p => knB m bk p.2 := hu
    rw [← hu', Bool.true_and] at q qx
    have s13 := s12.trans s3
    have tb3 := tb.on s3
    clear hu hu' s3 s12 tb
    refine ⟨_, rfl, a, xs, rfl, s13.seqT hx, ?_⟩
    refine for_it (walk_enumT (xs := xs)) (fun i σ H' => ∃ c2 c3 c4, σ = [some (.ref a), some (.ref t), c2, c3, c4] ∧ Same H3 H' ∧ (bk.drop i).all (fun p => ruB m bk p.1 p.2) = bk.all fun p => ruB m bk p.1 p.2) ⟨_, _, _, rfl, Same.refl H3, rfl⟩ (fun i σ H' _ ⟨c2, c3, c4, _, z, _⟩ => (s13.trans z).seqT hx) ?_ ?_
    · rintro i y σ H4 H5 hi ⟨c2, c3, c4, rfl, s3, hu⟩ ⟨Tt, yi, r, rfl, hT, rfl, hyi, hy⟩
      cases hyi
      obtain ⟨e, he, hde⟩ := dqAll_at _ _ _ hA hy
      obtain ⟨y, k, rfl⟩ := b1 e (List.mem_of_getElem? he)
      have hb := hget he
      have mb := List.mem_of_getElem? hb
      have lk := look_of b2 mb
      have nk := b4 _ mb
      have s4 := same_new hT (.tup [.int (i : Nat), r])
      have s24 := s3.trans s4
      have hTT : upd H4 Tt (.tup [.int (i : Nat), r]) Tt = some (.tup [.int (i : Nat), r]) := upd_same
      rw [all_drop hb] at hu
      obtain ⟨ad, zs, rfl, hz, hB⟩ := dq_tuple hde
      obtain ⟨x0, rs, rfl, g0, hB⟩ := dqAll_cons hB
      obtain ⟨x1, rs, rfl, g1, hB⟩ := dqAll_cons hB
      obtain rfl := dqAll_nil hB
      cases g0
      refine ⟨Tt, _, rfl, SqT.of hTT, rfl, _, _, rfl, _, _, rfl, ad, _, rfl, (s13.trans s24).seqT hz, rfl, _, _, rfl, _, _, rfl, rfl, rfl, ?_⟩
      refine ⟨_, rfl, _, rfl, t, y, k, bk, rfl, tb3.on s24, b3, nk, lk, fun H6 s6 => ⟨_, rfl, ?_⟩⟩
      have hu' : (ruB m bk y k && (bk.drop (i + 1)).all fun p => ruB m bk p.1 p.2) = bk.all fun p => ruB m bk p.1 p.2 := hu
      cases hp : ruB m bk y k with
      | false =>
        rw [hp, Bool.false_and] at hu'
        exact iteT ⟨_, rfl, rfl, rfl, fun dd hdd => qx hu'.symm _ dd (((s13.trans s24).trans s6).trans (same_new hdd _))⟩
      | true =>
        rw [hp, Bool.true_and] at hu'
        exact iteF ⟨_, _, _, rfl, s24.trans s6, hu'⟩
    · rintro σ H4 ⟨c2, c3, c4, rfl, s3, hu⟩
      rw [hlx, ← hbl, List.drop_length] at hu
      have hu' : true = bk.all fun p => ruB m bk p.1 p.2 := hu
      exact ⟨_, rfl, q hu'.symm t H4 (s13.trans s3) (tb3.on s3)⟩
end
end Toy
set_option Elab.async false
set_option linter.all false
set_option maxRecDepth 100000
set_option maxHeartbeats 2000000
namespace Toy
open PySem L2 PyProof.Rows
def spIb (K : PySem.W.Frag) (m : Nat) : Sp := fun vs H Q _ => ∃ (v : V) (d : PyData), vs = [v] ∧ Dq K H v d ∧ TopP K H v d ∧ txtB d = true ∧ d.depth ≤ m ∧ ∀ H', Same H H' → Q (.bl (tbB m d)) H'
/-- a book that is one -/
def BookAt (K : PySem.W.Frag) (m : Nat) (H : Hp) (v : V) (d : PyData) : Prop := Dq K H v d ∧ TopP K H v d ∧ txtB d = true ∧ d.depth ≤ m ∧ tbB m d = true
def spNd (K : PySem.W.Frag) (m : Nat) : Sp := fun vs H Q _ => ∃ (v : V) (d : PyData) (x : Str), vs = [v, .str x] ∧ BookAt K m H v d ∧ txtB (.str x) = true ∧ nmB (.str x) = true ∧ (lookB (bkOf d) x = none → ∀ H', Same H H' → Q .non H') ∧
  (∀ k, lookB (bkOf d) x = some k → ∀ u H', Same H H' → Dq K H' u k → Q u H')
def spDk (K : PySem.W.Frag) (m : Nat) : Sp := fun vs H Q _ => ∃ (v u : V) (d e : PyData), vs = [v, u] ∧ BookAt K m H v d ∧ Dq K H u e ∧ txtB e = true ∧ e.depth ≤ m ∧ ∀ H', Same H H' → Q (.bl (knB m (bkOf d) e)) H'
def spIh (K : PySem.W.Frag) (m : Nat) : Sp := fun vs H Q _ => ∃ (v u : V) (d e : PyData), vs = [v, u] ∧ BookAt K m H v d ∧ Dq K H u e ∧ txtB e = true ∧ e.depth ≤ m ∧ ∀ H', Same H H' → Q (.bl (khB m (bkOf d) e)) H'
section
variable {P : Program} {w : World} {K : PySem.W.Frag} {mg : Str → Option Value} {base : Heap} {m : Nat} {C : Addr}
end
end Toy
set_option Elab.async false
set_option linter.all false
set_option maxRecDepth 100000
set_option maxHeartbeats 2000000
namespace Toy
open PySem L2
abbrev sKind : Stmt := top 62
def oddB (d : PyData) : Bool := gdB 0 d && (decide (d.weight ≤ 100) && decide (d.depth ≤ 5))
theorem odds_ok : dOdd.all oddB = true := by decide +kernel
theorem odd_gd {d : PyData} (h : d ∈ dOdd) : Gd d 0 100 5 := by
  have z := List.all_eq_true.mp odds_ok d h
  unfold oddB at z
  simp only [Bool.and_eq_true, decide_eq_true_eq] at z
  exact ⟨z.1, z.2.1, z.2.2⟩
/-- what a drawing tells: data within a greater G -/
def Drawn (K : PySem.W.Frag) (wl : Addr) (G H : Hp) (j w k : Nat) (Q : VK) : Prop := ∀ (v : V) (H' G' : Hp) (d : PyData), Gr wl G H G' H' → Dq K G' v d → Gd d j w k → Q v H'
def spOddG (K : PySem.W.Frag) : Sp := fun vs H Q _ => ∃ (wl : Addr) (G : Hp), vs = [.ref wl] ∧ Stt wl G H ∧ Drawn K wl G H 0 100 5 Q
theorem oddG {K : PySem.W.Frag} {vs : List V} {H : Hp} {Q : VK} {E : XK} (h : spOddG K vs H Q E) : spOdd K vs H Q E := by
  obtain ⟨wl, G, rfl, s, q⟩ := h
  refine ⟨wl, rfl, s.well, fun v H' d hd D w e => ?_⟩
  exact q v H' _ d (Gr.join s w e) (Dq.mono (join_new s.sub) _ _ D) (odd_gd hd)
theorem Gr.tup {K : PySem.W.Frag} {wl p : Addr} {G H : Hp} {vs : List V} {ds : List PyData} (s : Stt wl G H) {ob : Obj} (hp : H p = none) (hob : ob.dict = none) (A : DqAll K G vs ds) : Gr wl G H (upd G p (.frz ob (.tup vs))) (upd H p (.frz ob (.tup vs))) ∧ Dq K (upd G p (.frz ob (.tup vs))) (.ref p) (.tuple ds) :=
  ⟨Gr.new s hp _, .tup (SqP.of upd_same hob) (DqAll.mono (same_new (s.sub.free hp) _) _ _ A)⟩
theorem Gr.lis {K : PySem.W.Frag} {wl p : Addr} {G H : Hp} {vs : List V} {ds : List PyData} (s : Stt wl G H) (hp : H p = none) (A : DqAll K G vs ds) : Gr wl G H (upd G p (.lst vs)) (upd H p (.lst vs)) ∧ Dq K (upd G p (.lst vs)) (.ref p) (.list ds) :=
  ⟨Gr.new s hp _, .lst (SqL.of upd_same) (DqAll.mono (same_new (s.sub.free hp) _) _ _ A)⟩
theorem gd_str {x : Str} {n j : Nat} (h : txtOk x n) (hn : n ≤ 100 + j) : Gd (.str x) j n 0 := by
  refine ⟨?_, ?_, ?_⟩
  · show (PyData.strOk x && decide (x.length ≤ 100 + j)) = true
    rw [Bool.and_eq_true, decide_eq_true_eq]
    exact ⟨h.1, Nat.le_trans h.2 hn⟩
  · simp only [PyData.weight]; exact h.2
  · simp only [PyData.depth]; exact Nat.le_refl 0
def wk : Nat → Nat
  | 0 => 66
  | 1 => 66
  | n + 2 => 2 * wk (n + 1) + 9
theorem wk_low : ∀ n : Nat, 66 ≤ wk n
  | 0 => Nat.le_refl _
  | 1 => Nat.le_refl _
  | n + 2 => by
    have := wk_low (n + 1)
    show 66 ≤ 2 * wk (n + 1) + 9
    omega
def spKi (K : PySem.W.Frag) (n : Nat) : Sp := fun vs H Q _ => ∃ (wl l : Addr) (G : Hp) (xs : List Str), vs = [.ref wl, .ref l, .int (n : Nat)] ∧ Stt wl G H ∧ H l = some (.lst (xs.map V.str)) ∧ l ≠ wl ∧ 1 ≤ xs.length ∧ xs.length ≤ 1000 ∧ (∀ x ∈ xs, txtOk x 60) ∧ 1 ≤ n ∧ Drawn K wl G H 0 (wk n) n Q
theorem word_ok {l : List Str} (h : l.all (fun x => PyData.strOk x && decide (x.length ≤ 8)) = true) {x : Str} (m : x ∈ l) : txtOk x 8 := by
  have := List.all_eq_true.mp h x m
  rw [Bool.and_eq_true, decide_eq_true_eq] at this
  exact this
section
variable {P : Program} {w : World} {K : PySem.W.Frag} {mg : Str → Option Value} {base : Heap}
theorem scKi : FnScope ["well", "names", "deep", "branch", "one"] ["well", "names", "deep"] (defScope sKind) := ⟨rfl, rfl, rfl, by decide +kernel, rfl, by decide +kernel, by decide +kernel⟩
theorem ok_kind {f gD gP : Addr} {fd dD dP : FuncData} {n k : Nat} {sp' : Sp} (hk : 2 ≤ k) (F : Fun K "_law_kind" "_law_kind" sKind f fd) (T : Nm mg) (D : Gv P w K mg base 1 "_law_draw" gD dD ["well", "many"] spDraw) (PT' : Gv P w K mg base 2 "_law_pick" gP dP ["well", "some"] (spPick K)) (PL : FnOk P w K mg base CX0 2 gP dP ["well", "some"] (spPickL K))
    (R : Gv P w K mg base k "_law_kind" f fd ["well", "names", "deep"] sp') (hR : 2 ≤ n → sp' = spKi K (n - 1)) : FnOk P w K mg base CX0 (k + 1) f fd ["well", "names", "deep"] (spKi K n) := by
  refine F.ok scKi (fun vs H Q E h => ?_) (fun cdv A outer s H vs Q E hr h => ?_)
  · obtain ⟨wl, l, G, xs, rfl, _⟩ := h
    rfl
  obtain ⟨wl, l, G, xs, rfl, st, hl, nl, h1x, hz, hx, hn, q⟩ := h
  have hr1 : Room 1 (A.deeper _) := hr.mono (by omega)
  have hr2 : Room 2 (A.deeper _) := hr.mono hk
  refine ⟨_, pss_cons (ps_set (i := 3) scKi.nd rfl (.inl rfl) (pe_ifExp (pt_cmpR op_gt (pv 2) pe_int (nomark _)) (pe_call D.ok hr1 rfl D.m D.k D.b .nil pass0 (pa_cons (pv 0) (pa_cons pe_int pa_nil))) (pe_call D.ok hr1 rfl D.m D.k D.b .nil pass0 (pa_cons (pv 0) (pa_cons pe_int pa_nil)))))
    (pss_cons (ps_if (PW.pt (pw_and (pt_cmpR op_lt (pv 3) pe_int (nomark _)) (pw_and1 (pt_cmpR op_gt (pe_callB call_len_seq rfl T.len PySem.boot_len (pa_cons (pv 1) pa_nil)) pe_int (nomark _)))))
      (pss_one (ps_ret (pe_tupN (pa_cons pe_str (pa_cons (pe_call PL hr2 rfl PT'.m PT'.k PT'.b .nil pass0 (pa_cons (pv 0) (pa_cons (pv 1) pa_nil))) pa_nil))))) pss_nil)
    (pss_cons (ps_if (pt_cmpR op_lt (pv 3) pe_int (nomark _)) (pss_one (ps_ret (pe_tupN (pa_cons (pe_ifExp (pt_cmpR op_eq (pv 3) pe_int (nomark _)) (pe_call PT'.ok hr2 rfl PT'.m PT'.k PT'.b .nil pass0 (pa_cons (pv 0) (pa_cons (pe_tup (pa_cons pe_str (pa_cons pe_str (pa_cons pe_str (pa_cons pe_str pa_nil))))) pa_nil))) pe_str) pa_nil)))) pss_nil)
    (pss_cons (ps_set (i := 4) scKi.nd rfl (.inl rfl) (pe_call R.ok hr rfl R.m R.k R.b .nil pass0 (pa_cons (pv 0) (pa_cons (pv 1) (pa_cons (pe_op op_sub (pv 2) pe_int) pa_nil)))))
    (pss_one (ps_ret (pe_tupN (pa_cons (pe_ifExp (pt_cmpR op_lt (pv 3) pe_int (nomark _)) pe_str pe_str) (pa_cons (pv 4) (pa_cons (pe_call R.ok hr rfl R.m R.k R.b .nil pass0 (pa_cons (pv 0) (pa_cons (pv 1) (pa_cons (pe_op op_sub (pv 2) pe_int) pa_nil)))) pa_nil))))))))), ?_⟩
  have z3 : ∀ {k : Nat}, k ≤ 20 → k ≤ sizeLine := fun h => Nat.le_trans h (by decide)
  refine ⟨_, rfl, _, _, rfl, rfl, _, rfl, ?_⟩
  refine ite2 (fun g => ⟨_, rfl, wl, 11, rfl, by decide, by decide, st.well, fun br H1 b0 b1 w1 e1 => ?a⟩) (fun g => ⟨_, rfl, wl, 5, rfl, by decide, by decide, st.well, fun br H1 b0 b1 w1 e1 => ?b⟩)
  case' a => have hb : br < 5 ∨ 2 ≤ n := .inr (by have : (n : Int) > 1 := of_decide_eq_true g; omega)
  case' b => have hb : br < 5 ∨ 2 ≤ n := .inl b1
  all_goals clear g b1
  all_goals
    have g1 := Gr.stay st w1 e1
    have st1 := g1.stt st
    have hl1 : H1 l = some (.lst (xs.map V.str)) := e1 l _ nl hl
    have tl : ∀ (x : Str) {m : Nat}, txtOk x m → m ≤ 60 → Gd (.tuple [.str "name", .str x]) 0 (wk n) n := fun x m hx hm => by
      have l4 : ("name" : Str).cps.size = 4 := by decide +kernel
      have lx : x.cps.size ≤ m := hx.2
      refine ⟨?_, ?_, ?_⟩
      · show (gdB 0 (.str "name") && (gdB 0 (.str x) && true)) = true
        rw [show gdB 0 (.str "name") = true by decide +kernel, (gd_str hx (j := 0) (by omega)).g]
        rfl
      · have := wk_low n
        simp only [PyData.weight, PyData.weightAll]
        omega
      · simp only [PyData.depth, PyData.depthAll]
        omega
    have tw : ∀ {x : Str}, txtOk x 8 → Gd (.tuple [.str x]) 0 (wk n) n := fun {x} hx => by
      have lx : x.cps.size ≤ 8 := hx.2
      refine ⟨?_, ?_, ?_⟩
      · show (gdB 0 (.str x) && true) = true
        rw [(gd_str hx (j := 0) (by omega)).g]
        rfl
      · have := wk_low n
        simp only [PyData.weight, PyData.weightAll]
        omega
      · simp only [PyData.depth, PyData.depthAll]
        omega
    refine ⟨_, rfl, _, _, rfl, rfl, _, rfl, ?_⟩
    refine ite2 (fun g => ?_) (fun g => iteF ?_)
    · refine ⟨_, rfl, l, _, rfl, .inl (SqL.of hl1), _, _, rfl, rfl, _, rfl, ?_⟩
      refine ite2 (fun _ => ?_) (fun g2 => absurd (decide_eq_true (show ((xs.map V.str).length : Int) > 0 by rw [List.length_map]; omega)) g2)
      refine ⟨_, rfl, _, rfl, wl, l, xs.map V.str, rfl, w1, SqL.of hl1, nl, by rw [List.length_map]; omega, by rw [List.length_map]; omega, fun v H2 hv w2 e2 => ⟨z3 (by show 2 ≤ 20; decide), fun p ob hp hob => ?_⟩⟩
      obtain ⟨x, mx, rfl⟩ := strs_of hv
      have gg := Gr.stay st1 w2 e2
      obtain ⟨g3, D3⟩ := Gr.tup (K := K) (vs := [.str "name", .str x]) (ds := [.str "name", .str x]) (gg.stt st1) hp hob (.cons (.str _) (.cons (.str _) .nil))
      exact q _ _ _ _ ((g1.trans gg).trans g3) D3 (tl x (hx x mx) (Nat.le_refl _))
    clear g
    refine ⟨_, rfl, _, _, rfl, rfl, _, rfl, ?_⟩
    refine ite2 (fun g => ?_) (fun g => ?_)
    · refine ⟨_, rfl, rfl, _, rfl, ?_⟩
      refine ite2 (fun _ => ?_) (fun _ => ?_)
      · refine ⟨_, rfl, z3 (by show 4 ≤ 20; decide), fun t ht => ⟨wl, t, (["unit", "unit", "unit", "none"] : List Str).map V.str, rfl, well_new w1 ht _, SqT.of upd_same, by decide, by decide, fun v H2 hv w2 e2 => ⟨z3 (by show 1 ≤ 20; decide), fun p ob hp hob => ?_⟩⟩⟩
        obtain ⟨x, mx, rfl⟩ := strs_of hv
        have gg := Gr.stay st1 w2 ((But.new ht _).trans e2)
        obtain ⟨g3, D3⟩ := Gr.tup (K := K) (vs := [.str x]) (ds := [.str x]) (gg.stt st1) hp hob (.cons (.str _) .nil)
        exact q _ _ _ _ ((g1.trans gg).trans g3) D3 (tw (word_ok (by decide +kernel) mx))
      · refine ⟨z3 (by show 1 ≤ 20; decide), fun p ob hp hob => ?_⟩
        obtain ⟨g3, D3⟩ := Gr.tup (K := K) (vs := [.str "thing"]) (ds := [.str "thing"]) st1 hp hob (.cons (.str _) .nil)
        exact q _ _ _ _ (g1.trans g3) D3 (tw ⟨by decide +kernel, by decide +kernel⟩)
    · have g' : ¬ br < 5 := of_decide_eq_false (Bool.eq_false_iff.mpr g)
      have n2 : 2 ≤ n := by omega
      obtain rfl := hR n2
      have en : (V.int ((n : Nat) - 1 : Int)) = .int ((n - 1 : Nat) : Int) := by
        congr 1
        omega
      refine ⟨_, rfl, _, rfl, _, rfl, _, _, rfl, rfl, wl, l, G, xs, (by show [V.ref wl, V.ref l, V.int ((n : Nat) - 1 : Int)] = _; rw [en]), st1, hl1, nl, h1x, hz, hx, by omega, fun v2 H2 G2 d2 g2 D2 k2 => ?_⟩
      have st2 := g2.stt st1
      have hl2 := g2.lst nl hl1
      refine ⟨_, rfl, _, _, rfl, rfl, _, rfl, ?_⟩
      have fin : ∀ (word : Str), txtOk word 8 → word.cps.size ≤ 6 → ∀ (v3 : V) (H3 G3 : Hp) (d3 : PyData), Gr wl G2 H2 G3 H3 → Dq K G3 v3 d3 → Gd d3 0 (wk (n - 1)) (n - 1) → ∀ p ob, H3 p = none → ob.dict = none → Q (.ref p) (upd H3 p (.frz ob (.tup [.str word, v2, v3]))) := fun word tw' lw v3 H3 G3 d3 g3 D3 k3 p ob hp hob => by
        obtain ⟨g4, D4⟩ := Gr.tup (K := K) (vs := [.str word, v2, v3]) (ds := [.str word, d2, d3]) (g3.stt st2) hp hob (.cons (.str _) (.cons (g3.dq D2) (.cons D3 .nil)))
        refine q _ _ _ _ (((g1.trans g2).trans g3).trans g4) D4 ⟨?_, ?_, ?_⟩
        · show (gdB 0 (.str word) && (gdB 0 d2 && (gdB 0 d3 && true))) = true
          rw [(gd_str tw' (j := 0) (by omega)).g, k2.g, k3.g]
          rfl
        · have e : wk n = 2 * wk (n - 1) + 9 := by
            obtain ⟨m, rfl⟩ : ∃ m, n = m + 2 := ⟨n - 2, by omega⟩
            rfl
          have a := k2.w
          have b := k3.w
          simp only [PyData.weight, PyData.weightAll]
          omega
        · have a := k2.k
          have b := k3.k
          simp only [PyData.depth, PyData.depthAll]
          omega
      refine ite2 (fun _ => ?_) (fun _ => ?_)
      · exact ⟨_, rfl, _, rfl, _, rfl, _, rfl, _, _, rfl, rfl, wl, l, G2, xs, (by show [V.ref wl, V.ref l, V.int ((n : Nat) - 1 : Int)] = _; rw [en]), st2, hl2, nl, h1x, hz, hx, by omega, fun v3 H3 G3 d3 g3 D3 k3 => ⟨z3 (by show 3 ≤ 20; decide), fun p ob hp hob => fin "pair" ⟨by decide +kernel, by decide +kernel⟩ (by decide +kernel) v3 H3 G3 d3 g3 D3 k3 p ob hp hob⟩⟩
      · exact ⟨_, rfl, _, rfl, _, rfl, _, rfl, _, _, rfl, rfl, wl, l, G2, xs, (by show [V.ref wl, V.ref l, V.int ((n : Nat) - 1 : Int)] = _; rw [en]), st2, hl2, nl, h1x, hz, hx, by omega, fun v3 H3 G3 d3 g3 D3 k3 => ⟨z3 (by show 3 ≤ 20; decide), fun p ob hp hob => fin "either" ⟨by decide +kernel, by decide +kernel⟩ (by decide +kernel) v3 H3 G3 d3 g3 D3 k3 p ob hp hob⟩⟩
theorem none_leftK {f : Addr} {fd : FuncData} {k : Nat} : FnOk P w K mg base CX0 k f fd ["well", "names", "deep"] (fun _ _ _ _ => False) := ⟨fun _ _ _ _ h => h.elim, fun _ _ _ _ _ _ _ _ _ _ _ _ _ h => h.elim⟩
theorem kindsG {f gD gP : Addr} {fd dD dP : FuncData} (F : Fun K "_law_kind" "_law_kind" sKind f fd) (bF : Binds K fd ["well", "names", "deep"] []) (mF : mg "_law_kind" = some (.ref f)) (T : Nm mg) (D : Gv P w K mg base 1 "_law_draw" gD dD ["well", "many"] spDraw) (PT' : Gv P w K mg base 2 "_law_pick" gP dP ["well", "some"] (spPick K)) (PL : FnOk P w K mg base CX0 2 gP dP ["well", "some"] (spPickL K)) :
    ∀ n : Nat, Gv P w K mg base (3 + n) "_law_kind" f fd ["well", "names", "deep"] (spKi K n)
  | 0 => ⟨ok_kind (n := 0) (Nat.le_refl 2) F T D PT' PL ⟨none_leftK, bF, F.kp, mF⟩ (fun h => absurd h (by decide)), bF, F.kp, mF⟩
  | n + 1 => ⟨ok_kind (n := n + 1) (k := 3 + n) (by omega) F T D PT' PL (kindsG F bF mF T D PT' PL n) (fun _ => rfl), bF, F.kp, mF⟩
end
end Toy
set_option Elab.async false
set_option linter.all false
set_option maxRecDepth 100000
set_option maxHeartbeats 2000000
namespace Toy
open PySem L2
theorem gd_row {K : PySem.W.Frag} {word : Str} {a b : PyData} {j w1 w2 k : Nat} (tw : txtOk word 8) (ga : Gd a j w1 k) (gb : Gd b j w2 k) : Gd (.tuple [.str word, a, b]) j (w1 + w2 + 11) (k + 1) := by
  have lw : word.cps.size ≤ 8 := tw.2
  refine ⟨?_, ?_, ?_⟩
  · show (gdB j (.str word) && (gdB j a && (gdB j b && true))) = true
    rw [(gd_str tw (j := j) (by omega)).g, ga.g, gb.g]
    rfl
  · have x := ga.w
    have y := gb.w
    simp only [PyData.weight, PyData.weightAll]
    omega
  · have x := ga.k
    have y := gb.k
    simp only [PyData.depth, PyData.depthAll]
    omega
theorem txt_lit {x : Str} {n : Nat} (h : (PyData.strOk x && decide (x.length ≤ n)) = true) : txtOk x n := by
  rw [Bool.and_eq_true, decide_eq_true_eq] at h
  exact h
theorem gd_name {x : Str} {m j : Nat} (h : txtOk x m) (hm : m ≤ 100 + j) : Gd (.tuple [.str "name", .str x]) j (m + 6) 1 := by
  have l4 : ("name" : Str).cps.size = 4 := by decide +kernel
  have lx : x.cps.size ≤ m := h.2
  refine ⟨?_, ?_, ?_⟩
  · show (gdB j (.str "name") && (gdB j (.str x) && true)) = true
    rw [(gd_str (x := "name") (n := 8) (j := j) (txt_lit (by decide +kernel)) (by omega)).g, (gd_str h (j := j) hm).g]
    rfl
  · simp only [PyData.weight, PyData.weightAll]
    omega
  · simp only [PyData.depth, PyData.depthAll]
    omega
theorem gd_word {x : Str} {j : Nat} (h : txtOk x 8) : Gd (.tuple [.str x]) j 10 1 := by
  have lx : x.cps.size ≤ 8 := h.2
  refine ⟨?_, ?_, ?_⟩
  · show (gdB j (.str x) && true) = true
    rw [(gd_str h (j := j) (by omega)).g]
    rfl
  · simp only [PyData.weight, PyData.weightAll]
    omega
  · simp only [PyData.depth, PyData.depthAll]
    omega
theorem joinR {R G : Prop} (h : R) (k : R → G) : G := k h
/-! ### pieces of tuples -/
theorem cutV_to {xs : List V} {n : Nat} (h : n ≤ xs.length) : cutV xs none (some (n : Int)) = xs.take n := by
  unfold cutV
  rw [HT.sIx_none, HT.sIx_nat, List.drop_zero, Nat.sub_zero, Nat.min_eq_left h]
theorem cutV_fr {xs : List V} {n : Nat} (h : n ≤ xs.length) : cutV xs (some (n : Int)) none = xs.drop n := by
  unfold cutV
  rw [HT.sIx_none, HT.sIx_nat, Nat.min_eq_left h, List.take_of_length_le (by rw [List.length_drop]; exact Nat.le_refl _)]
theorem DqAll.take {K : PySem.W.Frag} {H : Hp} : ∀ {xs : List V} {ds : List PyData} (n : Nat), DqAll K H xs ds → DqAll K H (xs.take n) (ds.take n)
  | [], [], n, .nil => by rw [List.take_nil, List.take_nil]; exact .nil
  | _ :: _, _ :: _, 0, .cons _ _ => .nil
  | _ :: _, _ :: _, n + 1, .cons r t => .cons r (DqAll.take n t)
theorem DqAll.drop {K : PySem.W.Frag} {H : Hp} : ∀ {xs : List V} {ds : List PyData} (n : Nat), DqAll K H xs ds → DqAll K H (xs.drop n) (ds.drop n)
  | [], [], n, .nil => by rw [List.drop_nil, List.drop_nil]; exact .nil
  | _ :: _, _ :: _, 0, .cons r t => .cons r t
  | _ :: _, _ :: _, n + 1, .cons _ t => DqAll.drop n t
theorem DqAll.rev {K : PySem.W.Frag} {H : Hp} : ∀ {xs : List V} {ds : List PyData}, DqAll K H xs ds → DqAll K H xs.reverse ds.reverse
  | [], [], .nil => .nil
  | x :: xs, d :: ds, .cons r t => by
    rw [List.reverse_cons, List.reverse_cons]
    exact DqAll.append (DqAll.rev t) (.cons r .nil)
/-- a tuple that lies in G, or is new since H0 -/
def Tp (K : PySem.W.Frag) (G H0 H : Hp) (b : Addr) (zs : List V) : Prop := SqP K G b zs ∨ (H0 b = none ∧ ∃ ob, H b = some (.frz ob (.tup zs)) ∧ ob.dict = none)
theorem Tp.seqT {K : PySem.W.Frag} {G H0 H : Hp} {b : Addr} {zs : List V} (s : Same G H) (h : Tp K G H0 H b zs) : SqT K H b zs := h.elim (fun z => s.seqT z.seqT) (fun ⟨_, _, z, d⟩ => (SqP.of z d).seqT)
theorem Tp.on {K : PySem.W.Frag} {G H0 H H' : Hp} {b : Addr} {zs : List V} (e : Same H H') (h : Tp K G H0 H b zs) : Tp K G H0 H' b zs := h.imp id fun ⟨a, o, z, d⟩ => ⟨a, o, e _ _ z, d⟩
theorem Tp.slice {K : PySem.W.Frag} {G H0 H : Hp} {a : Addr} {xs : List V} {lo hi : Option Int} {Q : VK} (s : Same G H) (s0 : Same H0 H) (h : Tp K G H0 H a xs)
    (q : ∀ b H', Same H H' → Tp K G H0 H' b (cutV xs lo hi) → Q (.ref b) H') : rSlN K (.ref a) lo hi H Q := by
  refine ⟨a, xs, rfl, h.seqT s, fun hw => ?_, fun _ p ob hp hob => ?_⟩
  · refine q a H (Same.refl H) ?_
    have e : cutV xs lo hi = xs := by
      unfold cutV
      rw [hw.1, hw.2, List.drop_zero, Nat.sub_zero, List.take_length]
    rw [e]
    exact h
  · exact q p _ (same_new hp _) (.inr ⟨s0.free hp, ob, upd_same, hob⟩)
theorem Tp.cat {K : PySem.W.Frag} {G H0 H : Hp} {a b : Addr} {xs ys : List V} {Q : VK} (s : Same G H) (s0 : Same H0 H) (h : Tp K G H0 H a xs) (h2 : Tp K G H0 H b ys) (hz : xs.length + ys.length ≤ sizeLine)
    (q : ∀ c H', Same H H' → Tp K G H0 H' c (xs ++ ys) → Q (.ref c) H') : rCatN K (.ref a) (.ref b) H Q := by
  refine ⟨a, b, xs, ys, rfl, rfl, h.seqT s, h2.seqT s, hz, fun e => ?_, fun _ e => ?_, fun _ _ p ob hp hob => ?_⟩
  · subst e
    exact q b H (Same.refl H) h2
  · subst e
    exact q a H (Same.refl H) (by rw [List.append_nil]; exact h)
  · exact q p _ (same_new hp _) (.inr ⟨s0.free hp, ob, upd_same, hob⟩)
theorem Tp.drawn {K : PySem.W.Frag} {wl : Addr} {G H0 H : Hp} {b : Addr} {zs : List V} {ds : List PyData} {j w k : Nat} {Q : VK} (g : Gr wl G H0 G H) (h : Tp K G H0 H b zs) (A : DqAll K G zs ds) (gd : Gd (.tuple ds) j w k) (q : Drawn K wl G H0 j w k Q) : Q (.ref b) H := by
  rcases h with h | ⟨h0, ob, h1, hob⟩
  · exact q _ H G _ g (.tup h A) gd
  · cases hb : G b with
    | some o =>
      have e := g.gh b o hb
      rw [h1] at e
      cases e
      exact q _ H G _ g (.tup (SqP.of hb hob) A) gd
    | none =>
      refine q _ H (upd G b (.frz ob (.tup zs))) _ ⟨same_new hb _, fun c o e => ?_, fun c e1 e2 => ?_, g.well, g.but⟩ (.tup (SqP.of upd_same hob) (DqAll.mono (same_new hb _) _ _ A)) gd
      · by_cases ec : c = b
        · subst ec
          rw [upd_same] at e
          cases e
          exact h1
        · rw [upd_ne ec] at e
          exact g.gh c o e
      · rw [upd_ne (fun ec => e2 (by rw [ec]; exact h0))]
        exact e1
theorem len_wA (l : List PyData) : l.length ≤ PyData.weightAll l := by
  induction l with
  | nil => exact Nat.zero_le _
  | cons x r ih => simp only [PyData.weightAll, List.length_cons]; omega
theorem gd_tuple {ds : List PyData} {j w k : Nat} (h : ∀ d ∈ ds, gdB j d = true ∧ d.depth + 1 ≤ k) (hw : PyData.weightAll ds ≤ w) (hk : 1 ≤ k) : Gd (.tuple ds) j w k := by
  refine ⟨?_, ?_, ?_⟩
  · show gdA j ds = true
    exact gdA_iff.mpr fun d m => (h d m).1
  · simp only [PyData.weight]; exact hw
  · have := dA_le (k := k - 1) (l := ds) fun d m => by have := (h d m).2; omega
    simp only [PyData.depth]
    omega
theorem gd_list {ds : List PyData} {j w k : Nat} (h : ∀ d ∈ ds, gdB j d = true ∧ d.depth + 1 ≤ k) (hw : PyData.weightAll ds ≤ w) (hk : 1 ≤ k) : Gd (.list ds) j w k := by
  refine ⟨?_, ?_, ?_⟩
  · show gdA j ds = true
    exact gdA_iff.mpr fun d m => (h d m).1
  · simp only [PyData.weight]; exact hw
  · have := dA_le (k := k - 1) (l := ds) fun d m => by have := (h d m).2; omega
    simp only [PyData.depth]
    omega
theorem Gd.mem {ds : List PyData} {j w k : Nat} (h : Gd (.tuple ds) j w k) {d : PyData} (m : d ∈ ds) : gdB j d = true ∧ d.depth + 1 ≤ k := by
  have g : gdA j ds = true := h.g
  have hk := h.k
  simp only [PyData.depth] at hk
  have := dA_mem m
  exact ⟨gdA_iff.mp g d m, by omega⟩
theorem Gd.wA {ds : List PyData} {j w k : Nat} (h : Gd (.tuple ds) j w k) : PyData.weightAll ds ≤ w := by
  have := h.w
  simp only [PyData.weight] at this
  exact this
theorem Gd.one {ds : List PyData} {j w k : Nat} (h : Gd (.tuple ds) j w k) : 1 ≤ k := by
  have := h.k
  simp only [PyData.depth] at this
  omega
theorem wA_split (ds : List PyData) (n : Nat) : PyData.weightAll (ds.take n) + PyData.weightAll (ds.drop n) = PyData.weightAll ds := by
  rw [← wA_append, List.take_append_drop]
theorem wA_drop (ds : List PyData) (n : Nat) : PyData.weightAll (ds.drop n) ≤ PyData.weightAll ds := by
  have := wA_split ds n
  omega
theorem wA_take (ds : List PyData) (n : Nat) : PyData.weightAll (ds.take n) ≤ PyData.weightAll ds := by
  have := wA_split ds n
  omega
theorem int_weight {i : Int} {j : Nat} (h : i.natAbs ≤ 10 ^ 30 + j) (hj : j ≤ 1000) : (PyData.int i).weight ≤ 101 := by
  simp only [PyData.weight]
  split
  · exact Nat.zero_le _
  · rename_i h0
    have h1 : i.natAbs ≠ 0 := fun z => h0 (by
      have : i = 0 := by omega
      subst this
      rfl)
    have : i.natAbs < 2 ^ 100 := Nat.lt_of_le_of_lt (Nat.le_trans h (Nat.add_le_add_left hj _)) (by decide)
    have := (Nat.log2_lt h1).mpr this
    omega
end Toy
set_option Elab.async false
set_option linter.all false
set_option maxRecDepth 100000
set_option maxHeartbeats 2000000
namespace Toy
open PySem L2
theorem Drawn.after {K : PySem.W.Frag} {wl : Addr} {G H G1 H1 : Hp} {j w k : Nat} {Q : VK} (g : Gr wl G H G1 H1) (q : Drawn K wl G H j w k Q) : Drawn K wl G1 H1 j w k Q := fun v H' G' d g' D gd => q v H' G' d (g.trans g') D gd
theorem Drawn.less {K : PySem.W.Frag} {wl : Addr} {G H : Hp} {j w k j' w' k' : Nat} {Q : VK} (q : Drawn K wl G H j w k Q) (a : j' ≤ j) (b : w' ≤ w) (c : k' ≤ k) : Drawn K wl G H j' w' k' Q := fun v H' G' d g D gd => q v H' G' d g D (gd.up a b c)
def isIntB (d : PyData) : Bool := decide (tyD d = "int") || decide (tyD d = "bool")
def spBe (K : PySem.W.Frag) : Sp := fun vs H Q _ => ∃ (wl : Addr) (G : Hp) (v : V) (d : PyData) (j w k : Nat), vs = [.ref wl, v] ∧ Stt wl G H ∧ Dq K G v d ∧ Gd d j w k ∧ j ≤ 100 ∧ w ≤ 1000000 ∧ Drawn K wl G H (j + 1) (2 * w + 200) (k + 7) Q
structure Nb2 (mg : Str → Option Value) : Prop where
  int : mg "int" = none
  bool : mg "bool" = none
  list : mg "list" = none
def l8 : List Str := ["pair", "either", "thing", "none", "name", "left", "right", "Row"]
section
variable {P : Program} {w : World} {K : PySem.W.Frag} {mg : Str → Option Value} {base : Heap}
theorem kit_int : ∀ d : PyData, PySem.W.kitOne K (.type (tyD d)) (.type "int") = some (isIntB d)
  | .none => L2.kit_ty (show L2.kitB "NoneType" "int" = some false by decide +kernel)
  | .bool _ => L2.kit_ty (show L2.kitB "bool" "int" = some true by decide +kernel)
  | .int _ => L2.kit_ty (show L2.kitB "int" "int" = some true by decide +kernel)
  | .str _ => L2.kit_ty (show L2.kitB "str" "int" = some false by decide +kernel)
  | .list _ => L2.kit_ty (show L2.kitB "list" "int" = some false by decide +kernel)
  | .tuple _ => L2.kit_ty (show L2.kitB "tuple" "int" = some false by decide +kernel)
  | .dict _ => L2.kit_ty (show L2.kitB "dict" "int" = some false by decide +kernel)
theorem kit_bool : ∀ d : PyData, PySem.W.kitOne K (.type (tyD d)) (.type "bool") = some (decide (tyD d = "bool"))
  | .none => L2.kit_ty (show L2.kitB "NoneType" "bool" = some (decide (("NoneType" : String) = "bool")) by decide +kernel)
  | .bool _ => L2.kit_ty (show L2.kitB "bool" "bool" = some (decide (("bool" : String) = "bool")) by decide +kernel)
  | .int _ => L2.kit_ty (show L2.kitB "int" "bool" = some (decide (("int" : String) = "bool")) by decide +kernel)
  | .str _ => L2.kit_ty (show L2.kitB "str" "bool" = some (decide (("str" : String) = "bool")) by decide +kernel)
  | .list _ => L2.kit_ty (show L2.kitB "list" "bool" = some (decide (("list" : String) = "bool")) by decide +kernel)
  | .tuple _ => L2.kit_ty (show L2.kitB "tuple" "bool" = some (decide (("tuple" : String) = "bool")) by decide +kernel)
  | .dict _ => L2.kit_ty (show L2.kitB "dict" "bool" = some (decide (("dict" : String) = "bool")) by decide +kernel)
theorem int_of {d : PyData} (h : isIntB d = true) (h2 : tyD d ≠ "bool") : ∃ i, d = .int i := by
  unfold isIntB at h
  rw [Bool.or_eq_true, decide_eq_true_eq, decide_eq_true_eq] at h
  have e := h.resolve_right h2
  cases d with
  | int i => exact ⟨i, rfl⟩
  | none => exact absurd (show ("NoneType" : String) = "int" from e) (by decide)
  | bool _ => exact absurd (show ("bool" : String) = "int" from e) (by decide)
  | str _ => exact absurd (show ("str" : String) = "int" from e) (by decide)
  | tuple ds => exact absurd (show ("tuple" : String) = "int" from e) (by decide)
  | list _ => exact absurd (show ("list" : String) = "int" from e) (by decide)
  | dict _ => exact absurd (show ("dict" : String) = "int" from e) (by decide)
theorem dq_int {H : Hp} {v : V} {i : Int} (h : Dq K H v (.int i)) : v = .int i := by
  cases h
  rfl
set_option maxHeartbeats 8000000 in
end
end Toy
set_option Elab.async false
set_option linter.all false
set_option maxRecDepth 100000
set_option maxHeartbeats 4000000
namespace Toy
open PySem L2
theorem joinA {P N : L2.St → Hp → Prop} {G : Prop} (h : ∀ σ H, P σ H → N σ H) (k : (∀ σ H, P σ H → N σ H) → G) : G := k h
/-- the way down, the last step first -/
def Pth (K : PySem.W.Frag) (G H : Hp) (d0 : PyData) : List V → PyData → Prop
  | [], d => d = d0
  | y :: r, d => ∃ (t a : Addr) (n : Nat) (xs : List V) (ds : List PyData), y = .ref t ∧ H t = some (.tup [.ref a, .int (n : Nat)]) ∧ SqP K G a xs ∧ DqAll K G xs ds ∧ ds[n]? = some d ∧ Pth K G H d0 r (.tuple ds)
theorem Pth.mono {K : PySem.W.Frag} {G H G' H' : Hp} {d0 : PyData} (g : Same G G') (e : ∀ b xs, H b = some (.tup xs) → H' b = some (.tup xs)) : ∀ {r : List V} {d : PyData}, Pth K G H d0 r d → Pth K G' H' d0 r d
  | [], _, h => h
  | _ :: _, _, ⟨t, a, n, xs, ds, e1, e2, e3, e4, e5, e6⟩ => ⟨t, a, n, xs, ds, e1, e _ _ e2, g.seqP e3, DqAll.mono g _ _ e4, e5, Pth.mono g e e6⟩
theorem gd_item {ds : List PyData} {d : PyData} {j w k : Nat} (h : Gd (.tuple ds) j w k) (m : d ∈ ds) : Gd d j w k := by
  have a := h.mem m
  have b := wA_mem m
  have c := h.wA
  exact ⟨a.1, by omega, by omega⟩
theorem Pth.gd {K : PySem.W.Frag} {G H : Hp} {d0 : PyData} {j w k : Nat} (h0 : Gd d0 j w k) : ∀ {r : List V} {d : PyData}, Pth K G H d0 r d → Gd d j w k
  | [], _, h => by rw [show _ = d0 from h]; exact h0
  | _ :: _, _, ⟨t, a, n, xs, ds, e1, e2, e3, e4, e5, e6⟩ => gd_item (Pth.gd h0 e6) (List.mem_of_getElem? e5)
theorem tup_keep {wl : Addr} {H H' : Hp} (w : WellAt H wl) (b : But wl H H') : ∀ c xs, H c = some (.tup xs) → H' c = some (.tup xs) := fun c xs e => b c _ (fun z => by
  obtain ⟨_, _, _, h⟩ := w
  rw [z, h] at e
  cases e) e
theorem Gr.ownL {wl pl : Addr} {G H G' H' : Hp} (g : Gr wl G H G' H') (hp : H pl = none) (gp : G' pl = none) (np : pl ≠ wl) (o : HO) : Gr wl G H G' (upd H' pl o) :=
  ⟨g.gg, fun b u e => by rw [upd_ne (fun z => by rw [z, gp] at e; cases e)]; exact g.gh b u e, g.gn, by
    obtain ⟨a, b, c, e⟩ := g.well
    exact ⟨a, b, c, by rw [upd_ne (Ne.symm np)]; exact e⟩, fun b u n e => by rw [upd_ne (fun z => by rw [z, hp] at e; cases e)]; exact g.but b u n e⟩
def spSl (K : PySem.W.Frag) : Sp := fun vs H Q _ => ∃ (wl : Addr) (G : Hp) (v : V) (d : PyData) (j w k : Nat), vs = [.ref wl, v] ∧ Stt wl G H ∧ Dq K G v d ∧ Gd d j w k ∧ j ≤ 100 ∧ w ≤ 400000 ∧ Drawn K wl G H (j + 1) (2 * w + 200) (k + 7) Q
/-- what stands where d stood -/
structure Nrr (d d' : PyData) (j B : Nat) : Prop where
  g : gdB j d' = true
  w : d'.weight ≤ d.weight + B
  k : d'.depth ≤ d.depth + 7
theorem put_back {ds : List PyData} {n j B : Nat} {d d' : PyData} (h : ds[n]? = some d) (hg : ∀ x ∈ ds, gdB j x = true) (e : Nrr d d' j B) : Nrr (.tuple ds) (.tuple (ds.take n ++ [d'] ++ ds.drop (n + 1))) j B := by
  obtain ⟨hn, rfl⟩ := List.getElem?_eq_some_iff.mp h
  have sp := wA_split ds n
  rw [List.drop_eq_getElem_cons hn] at sp
  simp only [PyData.weightAll] at sp
  have e1 := e.w
  have e2 := e.k
  refine ⟨?_, ?_, ?_⟩
  · show gdA j _ = true
    refine gdA_iff.mpr fun x m => ?_
    rcases List.mem_append.mp m with m | m
    · rcases List.mem_append.mp m with m | m
      · exact hg x (List.mem_of_mem_take m)
      · rw [List.mem_singleton.mp m]; exact e.g
    · exact hg x (List.mem_of_mem_drop m)
  · simp only [PyData.weight]
    rw [wA_append, wA_append]
    simp only [PyData.weightAll]
    omega
  · simp only [PyData.depth]
    have : PyData.depthAll (ds.take n ++ [d'] ++ ds.drop (n + 1)) ≤ PyData.depthAll ds + 7 := dA_le fun x m => by
      rcases List.mem_append.mp m with m | m
      · rcases List.mem_append.mp m with m | m
        · have := dA_mem (List.mem_of_mem_take m); omega
        · rw [List.mem_singleton.mp m]
          have := dA_mem (List.getElem_mem hn)
          omega
      · have := dA_mem (List.mem_of_mem_drop m); omega
    omega
section
variable {P : Program} {w : World} {K : PySem.W.Frag} {mg : Str → Option Value} {base : Heap}
end
end Toy
set_option Elab.async false
set_option linter.all false
set_option maxRecDepth 100000
set_option maxHeartbeats 2000000
namespace Toy
open PySem L2 PyProof.Rows
abbrev sMadeBy : Stmt := top 64
/-! ### frames without a well -/
structure Fx (G H G' H' : Hp) : Prop where
  gg : Same G G'
  hh : Same H H'
  gh : Same G' H'
  gn : ∀ b, G b = none → H b ≠ none → G' b = none
theorem Fx.refl {G H : Hp} (s : Same G H) : Fx G H G H := ⟨Same.refl G, Same.refl H, s, fun _ h _ => h⟩
theorem Fx.trans {G H G1 H1 G2 H2 : Hp} (a : Fx G H G1 H1) (b : Fx G1 H1 G2 H2) : Fx G H G2 H2 := ⟨a.gg.trans b.gg, a.hh.trans b.hh, b.gh, fun c h1 h2 => b.gn c (a.gn c h1 h2) (fun z => h2 (a.hh.free z))⟩
theorem Fx.same {G H H' : Hp} (s : Same G H) (e : Same H H') : Fx G H G H' := ⟨Same.refl G, e, s.trans e, fun _ h _ => h⟩
theorem Fx.new {G H : Hp} {p : Addr} (s : Same G H) (hp : H p = none) (o : HO) : Fx G H (upd G p o) (upd H p o) := by
  refine ⟨same_new (s.free hp) o, same_new hp o, fun b u h => ?_, fun b h1 h2 => ?_⟩
  · by_cases e : b = p
    · subst e
      rw [upd_same] at h ⊢
      exact h
    · rw [upd_ne e] at h ⊢
      exact s b u h
  · rw [upd_ne (fun e => h2 (by rw [e]; exact hp))]
    exact h1
theorem Fx.gr {wl : Addr} {G H G' H' : Hp} (s : Stt wl G H) (n : Fx G H G' H') : Gr wl G H G' H' := ⟨n.gg, n.gh, n.gn, by
  obtain ⟨a, b, c, h⟩ := s.well
  exact ⟨a, b, c, n.hh _ _ h⟩, .of n.hh⟩
theorem Fx.row1 {K : PySem.W.Frag} {G H : Hp} {t : Addr} {w : Str} {v : V} {d : PyData} {ob : Obj} (s : Same G H) (ht : H t = none) (hob : ob.dict = none) (D : Dq K G v d) :
    Fx G H (upd G t (.frz ob (.tup [.str w, v]))) (upd H t (.frz ob (.tup [.str w, v]))) ∧ Dq K (upd G t (.frz ob (.tup [.str w, v]))) (.ref t) (.tuple [.str w, d]) :=
  ⟨Fx.new s ht _, dq_row1 upd_same hob (Dq.mono (same_new (s.free ht) _) _ _ D)⟩
theorem Fx.row2 {K : PySem.W.Frag} {G H : Hp} {t : Addr} {w : Str} {v v2 : V} {d d2 : PyData} {ob : Obj} (s : Same G H) (ht : H t = none) (hob : ob.dict = none) (D : Dq K G v d) (D2 : Dq K G v2 d2) :
    Fx G H (upd G t (.frz ob (.tup [.str w, v, v2]))) (upd H t (.frz ob (.tup [.str w, v, v2]))) ∧ Dq K (upd G t (.frz ob (.tup [.str w, v, v2]))) (.ref t) (.tuple [.str w, d, d2]) :=
  ⟨Fx.new s ht _, dq_row2 upd_same hob (Dq.mono (same_new (s.free ht) _) _ _ D) (Dq.mono (same_new (s.free ht) _) _ _ D2)⟩
theorem Fx.row0 {K : PySem.W.Frag} {G H : Hp} {t : Addr} {w : Str} {ob : Obj} (s : Same G H) (ht : H t = none) (hob : ob.dict = none) :
    Fx G H (upd G t (.frz ob (.tup [.str w]))) (upd H t (.frz ob (.tup [.str w]))) ∧ Dq K (upd G t (.frz ob (.tup [.str w]))) (.ref t) (.tuple [.str w]) :=
  ⟨Fx.new s ht _, .tup (SqP.of upd_same hob) (.cons (.str _) .nil)⟩
def spMb (K : PySem.W.Frag) (n : Nat) : Sp := fun vs H Q _ => ∃ (G : Hp) (v u : V) (d : PyData) (h : Ho), vs = [v, u] ∧ Same G H ∧ Dq K G v d ∧ fB n d = true ∧ txtB d = true ∧ d.depth ≤ 60 ∧ Dq K G u (hoD h) ∧ hoOk h ∧
  ∀ v' H' G', Fx G H G' H' → Dq K G' v' (kmd n d h) → Q v' H'
section
variable {P : Program} {w : World} {K : PySem.W.Frag} {mg : Str → Option Value} {base : Heap}
theorem scMb : FnScope ["kind", "hole", "one"] ["kind", "hole"] (defScope sMadeBy) := ⟨rfl, rfl, rfl, by decide +kernel, rfl, by decide +kernel, by decide +kernel⟩
theorem ok_madeby {f fC : Addr} {fd dC : FuncData} {n k : Nat} (hk : 1 ≤ k) (F : Fun K "_law_made_by" "_law_made_by" sMadeBy f fd) (C : Gv P w K mg base 1 "_law_called" fC dC ["name", "hole"] (spCal K)) (R : Gv P w K mg base k "_law_made_by" f fd ["kind", "hole"] (spMb K n)) :
    FnOk P w K mg base CX0 (k + 1) f fd ["kind", "hole"] (spMb K (n + 1)) := by
  refine F.ok scMb (fun vs H Q E h => ?_) (fun cdv A outer s H vs Q E hr h => ?_)
  · obtain ⟨G, v, u, d, ho, rfl, _⟩ := h
    rfl
  obtain ⟨G, v, u, d, ho, rfl, sG, hv, fm, tx, dd, hu, tl, q⟩ := h
  have hr1 : Room 1 (A.deeper _) := hr.mono (by omega)
  refine ⟨_, pss_cons (ps_if (pt_cmpR (op_eqD hr.units) (pv 0) (pv 1) (nomark _)) (pss_one (ps_ret (pe_ifExp (pt_cmpR op_eq (pe_ix ix_tup (pv 1) pe_int (fun _ _ => rfl)) pe_str (nomark _)) (pe_tupN (pa_cons pe_str pa_nil))
      (pe_tupN (pa_cons pe_str (pa_cons (pe_tupN (pa_cons pe_str pa_nil)) (pa_cons (pe_tupN (pa_cons pe_str (pa_cons (pe_call C.ok hr1 rfl C.m C.k C.b .nil pass0 (pa_cons (pe_ix ix_tup (pv 1) pe_int (fun _ _ => rfl)) (pa_cons (pv 1) pa_nil))) pa_nil))) pa_nil))))))) pss_nil)
    (pss_cons (ps_if (pt_cmpR op_eq (pe_ix ix_tup (pv 0) pe_int (fun _ _ => rfl)) pe_str (nomark _)) (pss_one (ps_ret (pe_tupN (pa_cons pe_str (pa_cons (pe_call C.ok hr1 rfl C.m C.k C.b .nil pass0 (pa_cons (pe_ix ix_tup (pv 0) pe_int (fun _ _ => rfl)) (pa_cons (pv 1) pa_nil))) pa_nil))))) pss_nil)
    (pss_cons (ps_if (pt_cmpR op_eq (pe_ix ix_tup (pv 0) pe_int (fun _ _ => rfl)) pe_str (nomark _))
      (pss_cons (ps_set (i := 2) scMb.nd rfl (.inl rfl) (pe_tupN (pa_cons pe_str (pa_cons (pe_call R.ok hr rfl R.m R.k R.b .nil pass0 (pa_cons (pe_ix ix_tup (pv 0) pe_int (fun _ _ => rfl)) (pa_cons (pv 1) pa_nil))) (pa_cons (pe_ix ix_tup (pv 0) pe_int (fun _ _ => rfl)) pa_nil)))))
      (pss_one (ps_ret (pe_tupN (pa_cons pe_str (pa_cons (pv 2) (pa_cons (pe_tupN (pa_cons pe_str (pa_cons (pe_ix ix_tup (pv 0) pe_int (fun _ _ => rfl)) (pa_cons (pe_call R.ok hr rfl R.m R.k R.b .nil pass0 (pa_cons (pe_ix ix_tup (pv 0) pe_int (fun _ _ => rfl)) (pa_cons (pv 1) pa_nil))) pa_nil)))) pa_nil))))))) pss_nil)
    (pss_cons (ps_if (pt_cmpR op_eq (pe_ix ix_tup (pv 0) pe_int (fun _ _ => rfl)) pe_str (nomark _)) (pss_one (ps_ret (pe_tupN (pa_cons pe_str (pa_cons (pe_call R.ok hr rfl R.m R.k R.b .nil pass0 (pa_cons (pe_ix ix_tup (pv 0) pe_int (fun _ _ => rfl)) (pa_cons (pv 1) pa_nil)))
      (pa_cons (pe_call R.ok hr rfl R.m R.k R.b .nil pass0 (pa_cons (pe_ix ix_tup (pv 0) pe_int (fun _ _ => rfl)) (pa_cons (pv 1) pa_nil))) pa_nil)))))) pss_nil)
    (pss_one (ps_ret (pe_tupN (pa_cons pe_str pa_nil))))))), ?_⟩
  have z3 : ∀ {k : Nat}, k ≤ 20 → k ≤ sizeLine := fun h => Nat.le_trans h (by decide)
  have sd := fB_st _ _ fm tx
  have hv1 := Dq.mono sG _ _ hv
  have hu1 := Dq.mono sG _ _ hu
  refine ⟨_, rfl, _, rfl, d, hoD ho, Dq.dp _ _ sd hv1, Dq.dp _ _ (hoD_st tl) hu1, shp sd (by omega), shp (hoD_st tl) (hoD_depth ho), _, rfl, ?_⟩
  cases e : PyData.eqv d (hoD ho) with
  | true =>
    rw [kmd_hol _ _ _ e] at q
    cases ho with
    | th =>
      obtain ⟨ad, xs, rfl, hx, hA⟩ := dq_tuple hu
      obtain ⟨x0, rs, rfl, g0, hA⟩ := dqAll_cons hA
      cases g0
      refine iteT ⟨_, rfl, ad, _, 0, _, rfl, rfl, sG.seqT hx, atI_nat (j := 0) rfl, rfl, _, rfl, ?_⟩
      refine iteT ⟨z3 (by show 1 ≤ 20; decide), fun t ob ht hob => ?_⟩
      obtain ⟨n1, D1⟩ := Fx.row0 (K := K) (w := "unit") sG ht hob
      exact q _ _ _ n1 D1
    | nm y =>
      obtain ⟨ad, xs, rfl, hx, hA⟩ := dq_tuple hu
      obtain ⟨x0, rs, rfl, g0, hA⟩ := dqAll_cons hA
      obtain ⟨x1, rs, rfl, g1, hA⟩ := dqAll_cons hA
      cases g0
      cases g1
      refine iteT ⟨_, rfl, ad, _, 0, _, rfl, rfl, sG.seqT hx, atI_nat (j := 0) rfl, rfl, _, rfl, ?_⟩
      refine iteF ⟨z3 (by show 1 ≤ 20; decide), fun t1 o1 h1 e1 => ?_⟩
      obtain ⟨n1, D1⟩ := Fx.row0 (K := K) (w := "unit") sG h1 e1
      refine ⟨_, rfl, ad, _, 1, _, rfl, rfl, n1.hh.seqT (sG.seqT hx), atI_nat (j := 1) rfl, _, rfl, y, .ref ad, .nm y, rfl, Dq.mono n1.hh _ _ hu1, ho_up tl, ho_up tl, ?_⟩
      refine ⟨z3 (by show 2 ≤ 20; decide), fun t2 o2 h2 e2 => ?_⟩
      obtain ⟨n2, D2⟩ := Fx.row1 (K := K) (w := "name") (v := .str (calD y (.nm y))) n1.gh h2 e2 (.str _)
      refine ⟨z3 (by show 3 ≤ 20; decide), fun t3 o3 h3 e3 => ?_⟩
      obtain ⟨n3, D3⟩ := Fx.row2 (K := K) (w := "either") n2.gh h3 e3 (Dq.mono n2.gg _ _ D1) D2
      exact q _ _ _ ((n1.trans n2).trans n3) D3
  | false =>
    have e' : ¬ PyData.eqv d (hoD ho) = true := by rw [e]; exact Bool.false_ne_true
    refine iteF ?_
    rcases fB_cases fm with ⟨w, rfl, hw⟩ | ⟨w, x, rfl, hw, _⟩ | ⟨m, w, a, b, en, rfl, hw, ha, hb⟩
    · obtain ⟨ad, xs, rfl, hx, hA⟩ := dq_tuple hv1
      obtain ⟨x0, rs, rfl, g0, hA⟩ := dqAll_cons hA
      cases g0
      rw [kmd_one _ _ _ e'] at q
      have no1 : decide (V.str w = V.str "name") = false := by rcases w_three hw with rfl | rfl | rfl <;> decide +kernel
      have no2 : decide (V.str w = V.str "either") = false := by rcases w_three hw with rfl | rfl | rfl <;> decide +kernel
      have no3 : decide (V.str w = V.str "pair") = false := by rcases w_three hw with rfl | rfl | rfl <;> decide +kernel
      refine ⟨_, rfl, ad, _, 0, _, rfl, rfl, hx, atI_nat (j := 0) rfl, rfl, _, rfl, ?_⟩
      rw [no1]
      refine iteF ⟨_, rfl, ad, _, 0, _, rfl, rfl, hx, atI_nat (j := 0) rfl, rfl, _, rfl, ?_⟩
      rw [no3]
      refine iteF ⟨_, rfl, ad, _, 0, _, rfl, rfl, hx, atI_nat (j := 0) rfl, rfl, _, rfl, ?_⟩
      rw [no2]
      refine iteF ⟨z3 (by show 1 ≤ 20; decide), fun t ob ht hob => ?_⟩
      obtain ⟨n1, D1⟩ := Fx.row0 (K := K) (w := "none") sG ht hob
      exact q _ _ _ n1 D1
    · have hw' := w_one hw
      injection hw' with hw'
      subst hw'
      have tt : (txtB (.str "name") && (txtB (.str x) && true)) = true := tx
      simp only [Bool.and_eq_true] at tt
      have tx' : (PyData.strOk x && decide (x.length ≤ 2000)) = true := tt.2.1
      rw [Bool.and_eq_true, decide_eq_true_eq] at tx'
      obtain ⟨ad, xs, rfl, hx, hA⟩ := dq_tuple hv1
      obtain ⟨x0, rs, rfl, g0, hA⟩ := dqAll_cons hA
      obtain ⟨x1, rs, rfl, g1, hA⟩ := dqAll_cons hA
      cases g0
      cases g1
      rw [kmd_nam _ _ _ _ e'] at q
      refine ⟨_, rfl, ad, _, 0, _, rfl, rfl, hx, atI_nat (j := 0) rfl, rfl, _, rfl, ?_⟩
      refine iteT ⟨_, rfl, ad, _, 1, _, rfl, rfl, hx, atI_nat (j := 1) rfl, _, rfl, x, u, ho, rfl, hu1, tx', ho_up tl, ?_⟩
      refine ⟨z3 (by show 2 ≤ 20; decide), fun t ob ht hob => ?_⟩
      obtain ⟨n1, D1⟩ := Fx.row1 (K := K) (w := "name") (v := .str (calD x ho)) sG ht hob (.str _)
      exact q _ _ _ n1 D1
    · have en' : n = m := by omega
      subst en'
      have tt : (txtB (.str w) && (txtB a && (txtB b && true))) = true := tx
      simp only [Bool.and_eq_true] at tt
      rw [depth_row] at dd
      rw [kmd_row _ _ _ _ _ e'] at q
      obtain ⟨ad, xs, rfl, hxG, hA⟩ := dq_tuple hv
      obtain ⟨x0, rs, rfl, g0, hA⟩ := dqAll_cons hA
      obtain ⟨x1, rs, rfl, g1, hA⟩ := dqAll_cons hA
      obtain ⟨x2, rs, rfl, g2, hA⟩ := dqAll_cons hA
      cases g0
      have hx := sG.seqT hxG
      have no1 : decide (V.str w = V.str "name") = false := by rcases w_two hw with z | z <;> rw [z] <;> decide +kernel
      refine ⟨_, rfl, ad, _, 0, _, rfl, rfl, hx, atI_nat (j := 0) rfl, rfl, _, rfl, ?_⟩
      rw [no1]
      refine iteF ⟨_, rfl, ad, _, 0, _, rfl, rfl, hx, atI_nat (j := 0) rfl, rfl, _, rfl, ?_⟩
      rcases w_two hw with z | z
      · injection z with z
        subst z
        have en1 : wE "pair" = false := by decide +kernel
        rw [en1, if_neg Bool.false_ne_true] at q
        refine iteT ⟨_, rfl, ad, _, 1, _, rfl, rfl, hx, atI_nat (j := 1) rfl, _, rfl, G, x1, u, a, ho, rfl, sG, g1, ha, tt.2.1, by omega, hu, tl, fun y1 H1 G1 n1 D1 => ?_⟩
        have hx1 := n1.hh.seqT hx
        refine ⟨_, rfl, ad, _, 2, _, rfl, rfl, hx1, atI_nat (j := 2) rfl, z3 (by show 3 ≤ 20; decide), fun t1 o1 h1 e1 => ?_⟩
        obtain ⟨n2, D2⟩ := Fx.row2 (K := K) (w := "pair") n1.gh h1 e1 D1 (Dq.mono n1.gg _ _ g2)
        have n12 := n1.trans n2
        refine ⟨_, rfl, _, rfl, ad, _, 1, _, rfl, rfl, n12.hh.seqT hx, atI_nat (j := 1) rfl, _, rfl, ad, _, 2, _, rfl, rfl, n12.hh.seqT hx, atI_nat (j := 2) rfl, _, rfl, _, x2, u, b, ho, rfl, n12.gh, Dq.mono n12.gg _ _ g2, hb, tt.2.2.1, by omega, Dq.mono n12.gg _ _ hu, tl, fun y2 H2 G2 n3 D3 => ?_⟩
        refine ⟨z3 (by show 3 ≤ 20; decide), fun t2 o2 h2 e2 => ?_⟩
        have n123 := n12.trans n3
        obtain ⟨n4, D4⟩ := Fx.row2 (K := K) (w := "pair") n123.gh h2 e2 (Dq.mono n123.gg _ _ g1) D3
        refine ⟨z3 (by show 3 ≤ 20; decide), fun t3 o3 h3 e3 => ?_⟩
        obtain ⟨n5, D5⟩ := Fx.row2 (K := K) (w := "either") n4.gh h3 e3 (Dq.mono (n3.gg.trans n4.gg) _ _ D2) D4
        exact q _ _ _ ((n123.trans n4).trans n5) D5
      · injection z with z
        subst z
        have en1 : wE "either" = true := by decide +kernel
        rw [en1, if_pos rfl] at q
        have no2 : decide (V.str "either" = V.str "pair") = false := by decide +kernel
        rw [no2]
        refine iteF ⟨_, rfl, ad, _, 0, _, rfl, rfl, hx, atI_nat (j := 0) rfl, rfl, _, rfl, ?_⟩
        refine iteT ⟨_, rfl, ad, _, 1, _, rfl, rfl, hx, atI_nat (j := 1) rfl, _, rfl, G, x1, u, a, ho, rfl, sG, g1, ha, tt.2.1, by omega, hu, tl, fun y1 H1 G1 n1 D1 => ?_⟩
        refine ⟨_, rfl, ad, _, 2, _, rfl, rfl, n1.hh.seqT hx, atI_nat (j := 2) rfl, _, rfl, G1, x2, u, b, ho, rfl, n1.gh, Dq.mono n1.gg _ _ g2, hb, tt.2.2.1, by omega, Dq.mono n1.gg _ _ hu, tl, fun y2 H2 G2 n2 D2 => ?_⟩
        refine ⟨z3 (by show 3 ≤ 20; decide), fun t1 o1 h1 e1 => ?_⟩
        obtain ⟨n3, D3⟩ := Fx.row2 (K := K) (w := "either") n2.gh h1 e1 (Dq.mono n2.gg _ _ D1) D2
        exact q _ _ _ ((n1.trans n2).trans n3) D3
theorem none_leftMb {f : Addr} {fd : FuncData} {k : Nat} : FnOk P w K mg base CX0 k f fd ["kind", "hole"] (spMb K 0) := ⟨fun _ _ _ _ h => by
    obtain ⟨G, v, u, d, ho, rfl, _⟩ := h
    rfl, fun _ _ _ _ _ _ _ _ _ _ _ _ _ h => by
    obtain ⟨G, v, u, d, ho, _, _, _, f, _⟩ := h
    cases f⟩
theorem madebys {f fC : Addr} {fd dC : FuncData} (F : Fun K "_law_made_by" "_law_made_by" sMadeBy f fd) (bF : Binds K fd ["kind", "hole"] []) (mF : mg "_law_made_by" = some (.ref f)) (C : Gv P w K mg base 1 "_law_called" fC dC ["name", "hole"] (spCal K)) :
    ∀ n : Nat, Gv P w K mg base (1 + n) "_law_made_by" f fd ["kind", "hole"] (spMb K n)
  | 0 => ⟨none_leftMb, bF, F.kp, mF⟩
  | n + 1 => ⟨ok_madeby (n := n) (k := 1 + n) (by omega) F C (madebys F bF mF C n), bF, F.kp, mF⟩
end
end Toy
set_option Elab.async false
set_option linter.all false
set_option maxRecDepth 100000
set_option maxHeartbeats 2000000
namespace Toy
open PySem L2 PyProof.Rows
abbrev sKindOf : Stmt := top 70
/-- rows that are pairs of a name and something -/
def RowsP (ds : List PyData) : Prop := ∀ r ∈ ds, ∃ y k, r = .tuple [.str y, k]
def kindsOf (x : Str) (bk : List (Str × PyData)) : List PyData := (bk.filter fun p => decide (p.1 = x)).map (·.2)
theorem kindsOf_look {x : Str} {k : PyData} : ∀ {bk : List (Str × PyData)}, lookB bk x = some k → ∃ r, kindsOf x bk = k :: r
  | [], h => nomatch h
  | p :: bk, h => by
    unfold lookB at h
    unfold kindsOf
    rw [List.find?_cons] at h
    rw [List.filter_cons]
    by_cases z : p.1 = x
    · rw [decide_eq_true z] at h
      rw [decide_eq_true z, if_pos rfl, List.map_cons]
      exact ⟨_, by rw [← Option.some.inj h]⟩
    · rw [decide_eq_false z] at h
      rw [decide_eq_false z, if_neg Bool.false_ne_true]
      exact kindsOf_look h
theorem kindsOf_snoc (x : Str) (bk : List (Str × PyData)) (p : Str × PyData) : kindsOf x (bk ++ [p]) = kindsOf x bk ++ (if p.1 = x then [p.2] else []) := by
  unfold kindsOf
  rw [List.filter_append, List.map_append]
  congr 1
  by_cases z : p.1 = x
  · rw [if_pos z, List.filter_cons, decide_eq_true z]
    rfl
  · rw [if_neg z, List.filter_cons, decide_eq_false z]
    rfl
def spKo (K : PySem.W.Frag) : Sp := fun vs H Q _ => ∃ (G : Hp) (v : V) (ds : List PyData) (x : Str) (k : PyData), vs = [v, .str x] ∧ Same G H ∧ Dq K G v (.tuple ds) ∧ RowsP ds ∧ ds.length ≤ 1000 ∧ lookB (bkOf (.tuple ds)) x = some k ∧ ∀ u H', Same H H' → Dq K G u k → Q u H'
theorem bk_get {ds : List PyData} {i : Nat} {e : PyData} (he : ds[i]? = some e) : (bkOf (.tuple ds))[i]? = some (rowN e, rowK e) := by
  show (ds.map fun r => (rowN r, rowK r))[i]? = _
  rw [List.getElem?_map, he]
  rfl
section
variable {P : Program} {w : World} {K : PySem.W.Frag} {mg : Str → Option Value} {base : Heap} {m : Nat}
theorem scKo : FnScope ["book", "name", "known", "kind"] ["book", "name"] (defScope sKindOf) := ⟨rfl, rfl, rfl, by decide +kernel, rfl, by decide +kernel, by decide +kernel⟩
theorem ok_kindof {f : Addr} {fd : FuncData} (F : Fun K "_law_kind_of" "_law_kind_of" sKindOf f fd) : FnOk P w K mg base CX0 1 f fd ["book", "name"] (spKo K) := by
  refine F.ok scKo (fun vs H Q E h => ?_) (fun cdv A outer s H vs Q E hr h => ?_)
  · obtain ⟨G, v, ds, x, k, rfl, _⟩ := h
    rfl
  obtain ⟨G, v, ds, x, k, rfl, sG, hd, hr', hz, lk, q⟩ := h
  refine ⟨_, pss_one (ps_ret (pe_ix ix_list (pe_lc (own := [("known", 2), ("kind", 3)]) (g := gTup K 2 (gCons (gName 2) (gCons (gName 3) gNil))) (tt := tTest (tOp rEq (tVar 2) (tVar 1))) (te := tVar 3) rfl scKo.nd (pi_tup (pv 0)) (blkOk_by (own := [("known", 2), ("kind", 3)]) (N := ["book", "name", "known", "kind"]) (sc := defScope sKindOf) (by decide +kernel))
        (fun _ _ _ _ _ => pg_tup rfl (pgs_cons (pg_name (i := 2) scKo.nd rfl (.inl rfl)) (pgs_cons (pg_name (i := 3) scKo.nd rfl (.inl rfl)) pgs_nil))) (fun _ _ _ _ _ => pts_one (pt_cmpR op_eq (pv 2) (pv 1) (nomark _))) (fun _ _ _ _ _ => pv 3)) pe_int (fun _ _ => rfl))), ?_⟩
  obtain ⟨a, xs, rfl, hx, hA⟩ := dq_tuple hd
  have hl := hA.len
  refine ⟨_, rfl, a, rfl, ⟨_, sG.seqT hx⟩, fun D nD => ?_⟩
  refine lc_it (walk_tup (xs := xs)) (fun i H2 => Same H H2 ∧ ∃ zs es, H2 D = some (.lst zs) ∧ DqAll K G zs es ∧ zs.length ≤ i ∧ es = kindsOf x ((bkOf (.tuple ds)).take i)) ⟨same_new nD _, [], [], upd_same, .nil, Nat.zero_le _, rfl⟩ (fun i H2 _ z => (sG.trans z.1).seqT hx) ?_ ?_
  · rintro i y H2 _ hi ⟨s2, zs, es, hD, hE, hzl, ees⟩ ⟨rfl, hy⟩
    obtain ⟨e, he, hde⟩ := dqAll_at _ _ _ hA hy
    obtain ⟨y', k', rfl⟩ := hr' e (List.mem_of_getElem? he)
    have hb := bk_get he
    obtain ⟨ad, ws, rfl, hw, hB⟩ := dq_tuple hde
    obtain ⟨x0, rs, rfl, g0, hB⟩ := dqAll_cons hB
    obtain ⟨x1, rs, rfl, g1, hB⟩ := dqAll_cons hB
    obtain rfl := dqAll_nil hB
    cases g0
    have e0 : kindsOf x ((bkOf (.tuple ds)).take (i + 1)) = kindsOf x ((bkOf (.tuple ds)).take i) ++ (if y' = x then [k'] else []) := by
      rw [List.take_add_one, hb]
      exact kindsOf_snoc _ _ _
    refine ⟨ad, _, rfl, (sG.trans s2).seqT hw, rfl, _, _, rfl, _, _, rfl, rfl, rfl, ?_⟩
    refine ⟨_, rfl, _, rfl, rfl, _, rfl, ?_⟩
    refine ite2 (fun g => ?_) (fun g => ?_)
    · have g' : y' = x := by
        have := of_decide_eq_true g
        injection this
      rw [if_pos g'] at e0
      refine ⟨_, rfl, zs, hD, Nat.lt_of_le_of_lt (by omega : zs.length ≤ 1000) (by decide), fun b o z => by rw [upd_ne (ne_of_none z nD)]; exact s2 _ _ z, zs ++ [x1], es ++ [k'], upd_same, hE.append (.cons g1 .nil), by rw [List.length_append, List.length_singleton]; omega, by rw [e0, ees]⟩
    · have g' : ¬ y' = x := fun z => g (decide_eq_true (by rw [z]))
      rw [if_neg g', List.append_nil] at e0
      exact ⟨s2, zs, es, hD, hE, by omega, by rw [e0, ees]⟩
  · rintro H2 ⟨s2, zs, es, hD, hE, _, ees⟩
    have hbl : (bkOf (.tuple ds)).length = ds.length := List.length_map ..
    rw [hl, ← hbl, List.take_length] at ees
    obtain ⟨r, er⟩ := kindsOf_look lk
    rw [er] at ees
    subst ees
    obtain ⟨u, rs, rfl, g1, hE⟩ := dqAll_cons hE
    exact ⟨D, _, 0, u, rfl, rfl, SqL.of hD, atI_nat (j := 0) rfl, q u H2 s2 g1⟩
end
end Toy
set_option Elab.async false
set_option linter.all false
set_option maxRecDepth 100000
set_option maxHeartbeats 2000000
namespace Toy
open PySem L2 PyProof.Rows
theorem inV_names (x : Str) : ∀ l : List Str, inV (.str x) (l.map V.str) = l.any fun y => decide (y = x)
  | [] => rfl
  | y :: l => by
    have e : inV (.str x) ((y :: l).map V.str) = ((y == x) || inV (.str x) (l.map V.str)) := rfl
    rw [e, inV_names x l, List.any_cons]
    rw [Bool.beq_eq_decide_eq]
theorem look_names {x : Str} : ∀ {bk : List (Str × PyData)}, (lookB bk x).isSome = (bk.map (·.1)).any fun y => decide (y = x)
  | [] => rfl
  | p :: bk => by
    unfold lookB
    rw [List.find?_cons, List.map_cons, List.any_cons]
    by_cases z : p.1 = x
    · rw [decide_eq_true z]
      rfl
    · rw [decide_eq_false z, Bool.false_or]
      exact look_names
theorem bk_names (ds : List PyData) : (bkOf (.tuple ds)).map (·.1) = ds.map rowN := by
  show (ds.map fun r => (rowN r, rowK r)).map (·.1) = _
  rw [List.map_map]
  rfl
theorem flat_strs (l : List Str) : (l.map V.str).all flatV = true := by
  rw [List.all_map]
  exact List.all_eq_true.mpr fun _ _ => rfl
/-- the names' list asked for one -/
theorem names_in {K : PySem.W.Frag} {H : Hp} {L : Addr} {ds : List PyData} {x : Str} (hL : H L = some (.lst ((ds.map rowN).map V.str))) : inV (.str x) ((ds.map rowN).map V.str) = (lookB (bkOf (.tuple ds)) x).isSome := by
  rw [inV_names, look_names, bk_names]
def spLp (K : PySem.W.Frag) (m : Nat) : Sp := fun vs H Q _ => ∃ (v : V) (d : PyData), vs = [v] ∧ Dq K H v d ∧ txtB d = true ∧ d.depth ≤ m ∧ d.weight ≤ 900000 ∧ ∀ H', Same H H' → Q (.bl (lpB m d)) H'
where
  lpB (m : Nat) : PyData → Bool
    | .tuple [x, k] => nmB x && kdB m k
    | _ => false
def spLk (K : PySem.W.Frag) (m : Nat) : Sp := fun vs H Q _ => ∃ (v u : V) (ds : List PyData) (e : PyData), vs = [v, u] ∧ Dq K H v (.tuple ds) ∧ RowsP ds ∧ ds.length ≤ 1000 ∧ Dq K H u e ∧ txtB e = true ∧ e.depth ≤ m ∧ e.weight ≤ 900000 ∧ ∀ H', Same H H' → Q (.bl (knB m (bkOf (.tuple ds)) e)) H'
theorem filtP_all {f : Str → Bool} : ∀ l : List Str, ((l.filter fun x => !f x).map PyData.str).isEmpty = l.all f
  | [] => rfl
  | x :: l => by
    rw [List.filter_cons, List.all_cons]
    cases f x with
    | true => exact filtP_all l
    | false => rfl
theorem nameOf_txt {d : PyData} (t : txtB d = true) : ∀ c ∈ nameOf d, PyData.strOk c = true := by
  unfold nameOf
  split
  · rename_i w x
    intro c hc
    rw [List.mem_singleton.mp hc]
    have tt : (txtB w && (txtB (.str x) && true)) = true := t
    simp only [Bool.and_eq_true] at tt
    have tx : (PyData.strOk x && decide (x.length ≤ 2000)) = true := tt.2.1
    rw [Bool.and_eq_true] at tx
    exact tx.1
  · exact fun _ h => nomatch h
theorem ms_txt : ∀ (n : Nat) (d : PyData), txtB d = true → ∀ c ∈ (ms n d).2.2, PyData.strOk c = true
  | 0, _, _, _, h => nomatch h
  | n + 1, d, t, c, h => by
    have h' : c ∈ (match kids d with | some (a, b) => two (ms n a) (ms n b) | none => (1, 1, nameOf d)).2.2 := h
    cases e : kids d with
    | none =>
      rw [e] at h'
      exact nameOf_txt t c h'
    | some p =>
      obtain ⟨a, b⟩ := p
      rw [e] at h'
      have h2 : c ∈ (ms n a).2.2 ++ (ms n b).2.2 := h'
      obtain ⟨w, rfl⟩ : ∃ w, d = .tuple [w, a, b] := by
        unfold kids at e
        split at e
        · cases e; exact ⟨_, rfl⟩
        · cases e
      have tt : (txtB w && (txtB a && (txtB b && true))) = true := t
      simp only [Bool.and_eq_true] at tt
      rcases List.mem_append.mp h2 with m | m
      · exact ms_txt n a tt.2.1 c m
      · exact ms_txt n b tt.2.2.1 c m
section
variable {P : Program} {w : World} {K : PySem.W.Frag} {mg : Str → Option Value} {base : Heap} {m : Nat}
end
end Toy
set_option Elab.async false
set_option linter.all false
set_option maxRecDepth 100000
set_option maxHeartbeats 1000000
namespace Toy
open PySem L2 PyProof.Rows
/-! ### the last tick of a name -/
theorem quo_cps : quo.cps = #[39] := by decide +kernel
theorem quo_len : quo.length = 1 := by decide +kernel
theorem at_iff (x : Str) (i : Nat) : StrLaws.At x quo x.length i ↔ x.cps.toList[i]? = some 39 := by
  unfold StrLaws.At Builtin.Str.subAt
  rw [quo_len, quo_cps]
  have hx : x.length = x.cps.toList.length := (Array.length_toList).symm
  constructor
  · rintro ⟨h1, h2⟩
    have h3 : x.cps.extract i (i + 1) = #[39] := eq_of_beq h2
    have h4 : (x.cps.extract i (i + 1)).toList = [39] := by rw [h3]
    rw [Array.toList_extract] at h4
    have hi : i < x.cps.toList.length := by omega
    rw [List.getElem?_eq_getElem hi]
    have h5 : List.take (i + 1 - i) (List.drop i x.cps.toList) = [39] := h4
    rw [show i + 1 - i = 1 by omega, List.drop_eq_getElem_cons hi] at h5
    have h6 : [x.cps.toList[i]] = [39] := h5
    injection h6 with h6
    rw [h6]
  · intro h
    obtain ⟨hi, hv⟩ := List.getElem?_eq_some_iff.mp h
    refine ⟨by omega, ?_⟩
    have h4 : (x.cps.extract i (i + 1)).toList = [39] := by
      rw [Array.toList_extract]
      show List.take (i + 1 - i) (List.drop i x.cps.toList) = [39]
      rw [show i + 1 - i = 1 by omega, List.drop_eq_getElem_cons hi, hv]
      rfl
    have h3 : x.cps.extract i (i + 1) = #[39] := Array.toList_inj.mp (by rw [h4])
    rw [h3]
    rfl
/-- where there is no tick -/
theorem rp_none {x : Str} (h : 39 ∉ x.cps.toList) : Txt.rpartition x quo = (Str.empty, Str.empty, x) := by
  unfold Txt.rpartition
  rcases StrLaws.last_spec x quo with ⟨h0, _⟩ | ⟨i, h0, hi, _⟩
  · rw [h0]
  · exact absurd (List.mem_of_getElem? ((at_iff x i).mp hi)) h
/-- the last tick -/
theorem rp_some {x : Str} {A B : List Nat} (e : x.cps.toList = A ++ 39 :: B) (h : 39 ∉ B) : Txt.rpartition x quo = (⟨A.toArray⟩, quo, ⟨B.toArray⟩) := by
  have hA : StrLaws.At x quo x.length A.length := (at_iff x _).mpr (by rw [e]; simp)
  unfold Txt.rpartition
  rcases StrLaws.last_spec x quo with ⟨h0, hn⟩ | ⟨i, h0, hi, hn⟩
  · exact absurd hA (hn _)
  · have hi' := (at_iff x i).mp hi
    have ei : i = A.length := by
      rcases Nat.lt_trichotomy i A.length with z | z | z
      · exact absurd hA (hn _ z)
      · exact z
      · exfalso
        rw [e] at hi'
        have z1 : (A ++ 39 :: B)[i]? = B[i - A.length - 1]? := by
          rw [List.getElem?_append_right (by omega)]
          obtain ⟨j, hj⟩ : ∃ j, i - A.length = j + 1 := ⟨i - A.length - 1, by omega⟩
          rw [hj, List.getElem?_cons_succ]
          rfl
        rw [z1] at hi'
        exact h (List.mem_of_getElem? hi')
    subst ei
    rw [h0]
    have l : x.length = (A ++ 39 :: B).length := by rw [← e]; exact (Array.length_toList).symm
    have e1 : Builtin.Str.strSub x 0 A.length = ⟨A.toArray⟩ := by
      unfold Builtin.Str.strSub
      congr 1
      apply Array.toList_inj.mp
      rw [Array.toList_extract]
      show List.take (A.length - 0) (List.drop 0 x.cps.toList) = A
      rw [e, List.drop_zero, Nat.sub_zero, List.take_left]
    have e2 : Builtin.Str.strSub x (A.length + quo.length) x.length = ⟨B.toArray⟩ := by
      unfold Builtin.Str.strSub
      congr 1
      apply Array.toList_inj.mp
      rw [Array.toList_extract, quo_len]
      show List.take (x.length - (A.length + 1)) (List.drop (A.length + 1) x.cps.toList) = B
      rw [e, l, List.take_of_length_le (by simp; omega)]
      rw [List.drop_append]
      simp
    show (Builtin.Str.strSub x 0 A.length, quo, Builtin.Str.strSub x (A.length + quo.length) x.length) = _
    rw [e1, e2]
/-- pieces without ticks, the last one apart -/
theorem join_last (y p : Str) : ∀ (l : List Str), l ≠ [] → (Str.join y (l ++ [p])).cps.toList = (Str.join y l).cps.toList ++ y.cps.toList ++ p.cps.toList
  | [], h => absurd rfl h
  | [a], _ => by
    show (a ++ y ++ p).cps.toList = _
    rw [app_cps, app_cps]
    rfl
  | a :: b :: r, _ => by
    show (a ++ y ++ Str.join y (b :: r ++ [p])).cps.toList = (a ++ y ++ Str.join y (b :: r)).cps.toList ++ _ ++ _
    rw [app_cps, app_cps, app_cps, app_cps, join_last y p (b :: r) (fun z => nomatch z)]
    simp only [List.append_assoc]
theorem wr_tick {p : Str} (h : wrB p = true) : 39 ∉ p.cps.toList := by
  unfold wrB at h
  intro hm
  cases e : p.cps.toList with
  | nil => rw [e] at hm; cases hm
  | cons c r =>
    rw [e] at h hm
    have h' : (decide (r.length ≤ 7) && (capB c && r.all smB)) = true := h
    rw [Bool.and_eq_true, Bool.and_eq_true] at h'
    have n1 : capB 39 = false := by decide +kernel
    have n2 : smB 39 = false := by decide +kernel
    rcases List.mem_cons.mp hm with rfl | hm
    · rw [n1] at h'
      exact absurd h'.2.1 Bool.false_ne_true
    · have := List.all_eq_true.mp h'.2.2 39 hm
      rw [n2] at this
      cases this
theorem emp_tick {q : Str} (h : V.str q = V.str "") : q.cps.toList = [] := by
  injection h with h
  subst h
  decide +kernel
theorem piece_tick {q : Str} (h : (decide (V.str q = V.str "") || wrB q) = true) : 39 ∉ q.cps.toList := by
  rcases Bool.or_eq_true_iff.mp h with z | z
  · rw [emp_tick (of_decide_eq_true z)]
    exact fun h => nomatch h
  · exact wr_tick z
theorem split_one {y : Str} (h : 39 ∉ y.cps.toList) : Txt.split y quo = [y] := by
  have j := StrLaws.join_split y quo
  rcases List.eq_nil_or_concat (Txt.split y quo) with e | ⟨l, p, e⟩
  · exact absurd e (split_ne y quo)
  · rw [List.concat_eq_append] at e
    rw [e] at j ⊢
    by_cases hl : l = []
    · subst hl
      have j' : p = y := j
      rw [j']
      rfl
    · exfalso
      have z := join_last quo p l hl
      rw [j, quo_cps] at z
      rw [z] at h
      exact h (by simp)
theorem name_ways {x : Str} (h : nmB (.str x) = true) : (wrB x = true ∧ Txt.rpartition x quo = (Str.empty, Str.empty, x)) ∨
    (wrB x = false ∧ ∃ A B : List Nat, x.cps.toList = A ++ 39 :: B ∧ 39 ∉ B ∧ (B = [] ∨ wrB ⟨B.toArray⟩ = true)) := by
  have h' : (decide (x.length ≤ 60) && namL (Txt.split x quo)) = true := h
  rw [Bool.and_eq_true] at h'
  have j := StrLaws.join_split x quo
  have nl := h'.2
  cases e : Txt.split x quo with
  | nil => exact absurd e (split_ne x quo)
  | cons p r =>
    rw [e] at j nl
    have nl' : (wrB p && r.all fun q => decide (V.str q = V.str "") || wrB q) = true := nl
    rw [Bool.and_eq_true, List.all_eq_true] at nl'
    rcases List.eq_nil_or_concat r with rfl | ⟨l, q, rfl⟩
    · have jp : p = x := j
      subst jp
      exact .inl ⟨nl'.1, rp_none (wr_tick nl'.1)⟩
    · rw [List.concat_eq_append] at j nl'
      have z := join_last quo q (p :: l) (fun z => nomatch z)
      have j' : Str.join quo (p :: l ++ [q]) = x := j
      rw [j', quo_cps] at z
      have z' : x.cps.toList = (Str.join quo (p :: l)).cps.toList ++ 39 :: q.cps.toList := by rw [z]; simp
      have hq := nl'.2 q (by simp)
      refine .inr ⟨?_, _, _, z', piece_tick hq, ?_⟩
      · cases hw : wrB x with
        | false => rfl
        | true => exact absurd (show 39 ∈ x.cps.toList by rw [z']; simp) (wr_tick hw)
      · rcases Bool.or_eq_true_iff.mp hq with y | y
        · exact .inl (emp_tick (of_decide_eq_true y))
        · refine .inr ?_
          have eq : (⟨q.cps.toList.toArray⟩ : Str) = q := by simp
          rw [eq]
          exact y
theorem kh_thing {m : Nat} (h1 : 1 ≤ m) (bk : List (Str × PyData)) : khB m bk (hoD .th) = true := by
  obtain ⟨m, rfl⟩ : ∃ k, m = k + 1 := ⟨m - 1, by omega⟩
  have e1 : fB (m + 1) (hoD .th) = true := by
    show fB (m + 1) (.tuple [.str "thing"]) = true
    rw [fB_one]
    decide +kernel
  have e2 : ms (m + 1) (hoD .th) = (1, 1, []) := rfl
  unfold khB knB kdB
  rw [e1, e2]
  show (true && (decide (1 ≤ 30) && decide (1 ≤ 2000)) && true && hoB (hoD .th)) = true
  decide +kernel
theorem kh_name {m : Nat} (h1 : 1 ≤ m) (bk : List (Str × PyData)) {y : Str} (hw : wrB y = true) (hl : y.length ≤ 60) : khB m bk (hoD (.nm y)) = (lookB bk y).isSome := by
  obtain ⟨m, rfl⟩ : ∃ k, m = k + 1 := ⟨m - 1, by omega⟩
  have hn : nmB (.str y) = true := by
    show (decide (y.length ≤ 60) && namL (Txt.split y quo)) = true
    rw [split_one (wr_tick hw), decide_eq_true hl]
    show (true && (wrB y && true)) = true
    rw [hw]
    rfl
  have e1 : fB (m + 1) (hoD (.nm y)) = true := by
    show fB (m + 1) (.tuple [.str "name", .str y]) = true
    rw [fB_nam, hn]
    decide +kernel
  have e2 : ms (m + 1) (hoD (.nm y)) = (1, 1, [y]) := rfl
  have e3 : hoB (hoD (.nm y)) = true := by
    show (w1 "name" && wrB y) = true
    rw [hw]
    decide +kernel
  unfold khB knB kdB
  rw [e1, e2, e3]
  show (true && (decide (1 ≤ 30) && decide (1 ≤ 2000)) && ((lookB bk y).isSome && true) && true) = _
  cases (lookB bk y).isSome <;> rfl
/-- the law's own look at a name by a hole -/
def lrB (bk : List (Str × PyData)) (x : Str) (k : PyData) : Bool := match lookB bk (stemOf x) with
  | some c => (decide (V.str (lastOf x) = V.str "") || (lookB bk (lastOf x)).isSome) && PyData.eqv k (kmd 30 c (hoOf (lastOf x)))
  | none => false
theorem ru_law {m : Nat} (h1 : 1 ≤ m) {bk : List (Str × PyData)} {x : Str} {k : PyData} (hx : nmB (.str x) = true) :
    ((Txt.rpartition x quo).2.1 = "" ∧ ruB m bk x k = true) ∨ ((Txt.rpartition x quo).2.1 = quo ∧ ruB m bk x k = lrB bk x k) := by
  have hl : x.length ≤ 60 := by
    have h' : (decide (x.length ≤ 60) && namL (Txt.split x quo)) = true := hx
    rw [Bool.and_eq_true, decide_eq_true_eq] at h'
    exact h'.1
  rcases name_ways hx with ⟨hw, e⟩ | ⟨hw, A, B, ex, hB, hb⟩
  · refine .inl ⟨by rw [e]; rfl, ?_⟩
    unfold ruB
    rw [hw, Bool.true_or]
  · have e := rp_some ex hB
    refine .inr ⟨by rw [e], ?_⟩
    have el : lastOf x = ⟨B.toArray⟩ := by unfold lastOf; rw [e]
    unfold ruB lrB
    rw [hw, Bool.false_or]
    cases lookB bk (stemOf x) with
    | none => rfl
    | some c =>
      show (khB m bk (hoD (hoOf (lastOf x))) && _) = ((decide (V.str (lastOf x) = V.str "") || (lookB bk (lastOf x)).isSome) && _)
      congr 1
      by_cases hz : decide (V.str (lastOf x) = V.str "") = true
      · have eh : hoOf (lastOf x) = .th := if_pos hz
        rw [eh, hz, Bool.true_or]
        exact kh_thing h1 bk
      · have eh : hoOf (lastOf x) = .nm (lastOf x) := if_neg hz
        rw [eh, Bool.eq_false_iff.mpr hz, Bool.false_or]
        refine kh_name h1 bk ?_ ?_
        · rcases hb with rfl | hb
          · exfalso
            refine hz (decide_eq_true ?_)
            rw [el]
            rfl
          · rw [el]
            exact hb
        · rw [el]
          show B.toArray.size ≤ 60
          rw [List.size_toArray]
          have : x.cps.toList.length = (A ++ 39 :: B).length := by rw [ex]
          have hx2 : x.cps.toList.length = x.length := Array.length_toList
          rw [List.length_append, List.length_cons] at this
          omega
end Toy
set_option Elab.async false
set_option linter.all false
set_option maxRecDepth 100000
set_option maxHeartbeats 4000000
namespace Toy
open PySem L2 PyProof.Rows
/-! ### the law's first look: pairs in ascending order -/
def abv : Option Str → Str → Bool
  | none, _ => true
  | some p, x => lessS p x
def l1B (m : Nat) : Option Str → List PyData → Bool
  | _, [] => true
  | o, r :: rs => (spLp.lpB m r && abv o (rowN r)) && l1B m (some (rowN r)) rs
theorem pair_lp (m : Nat) (p : Str) (r : PyData) : pairB m p r = (spLp.lpB m r && lessS p (rowN r)) := by
  unfold pairB
  split
  · rename_i x k
    show (nmB x && (lessS p (nmX x) && kdB m k)) = ((nmB x && kdB m k) && lessS p (nmX x))
    cases nmB x <;> cases lessS p (nmX x) <;> cases kdB m k <;> rfl
  · rename_i hno
    cases e : spLp.lpB m r with
    | false => rfl
    | true =>
      exfalso
      unfold spLp.lpB at e
      split at e
      · exact hno _ _ rfl
      · cases e
theorem lp_form {m : Nat} {r : PyData} (h : spLp.lpB m r = true) : ∃ y k, r = .tuple [.str y, k] ∧ nmB (.str y) = true ∧ kdB m k = true := by
  unfold spLp.lpB at h
  split at h
  · rename_i x k
    rw [Bool.and_eq_true] at h
    obtain ⟨y, rfl⟩ := nmB_str h.1
    exact ⟨y, k, rfl, h.1, h.2⟩
  · cases h
theorem l1_some (m : Nat) : ∀ (p : Str) (ds : List PyData), l1B m (some p) ds = upB m p ds
  | _, [] => rfl
  | p, r :: rs => by
    show ((spLp.lpB m r && lessS p (rowN r)) && l1B m (some (rowN r)) rs) = (pairB m p r && upB m (rowN r) rs)
    rw [pair_lp, l1_some m (rowN r) rs]
theorem less_emp {y : Str} (h : nmB (.str y) = true) : lessS "" y = true := by
  refine decide_eq_true ?_
  have e0 : (("" : Str)).cps.toList = [] := by decide +kernel
  rw [e0]
  cases e : y.cps.toList with
  | nil =>
    exfalso
    have ey : y = "" := by
      have e2 : y.cps = #[] := Array.toList_inj.mp (by rw [e])
      have e3 : y = ⟨#[]⟩ := by rw [← e2]
      rw [e3]
      decide +kernel
    rw [ey] at h
    exact absurd h (by decide +kernel)
  | cons c r => exact List.nil_lt_cons c r
theorem l1_none (m : Nat) : ∀ (ds : List PyData), l1B m none ds = upB m "" ds
  | [] => rfl
  | r :: rs => by
    show ((spLp.lpB m r && true) && l1B m (some (rowN r)) rs) = (pairB m "" r && upB m (rowN r) rs)
    rw [pair_lp, l1_some m (rowN r) rs, Bool.and_true]
    cases e : spLp.lpB m r with
    | false => rfl
    | true =>
      obtain ⟨y, k, rfl, hy, _⟩ := lp_form e
      rw [show lessS "" (rowN (.tuple [.str y, k])) = true from less_emp hy]
      rfl
theorem joinT {N C : Addr → Hp → Prop} {G : Prop} (h : ∀ t H, C t H → N t H) (k : (∀ t H, C t H → N t H) → G) : G := k h
def prv (ds : List PyData) : Nat → Option Str
  | 0 => none
  | i + 1 => (ds[i]?).map rowN
def spWa (K : PySem.W.Frag) (m : Nat) : Sp := fun vs H Q _ => ∃ (v : V) (d : PyData), vs = [v] ∧ Dq K H v d ∧ txtB d = true ∧ d.depth ≤ m ∧ d.weight ≤ 900000 ∧
  ∀ t H' dd, Same H H' → Dp K H' (.ref t) dd → SeqAt.shaped dd = true → PyData.eqv dd (.tuple [.str "book"]) = tbB m d → Q (.ref t) H'
section
variable {P : Program} {w : World} {K : PySem.W.Frag} {mg : Str → Option Value} {base : Heap} {m : Nat}
end
end Toy
set_option Elab.async false
set_option linter.all false
set_option maxRecDepth 100000
set_option maxHeartbeats 4000000
namespace L2
open PySem PySem.Spec PyProof.Rows
def tCallZ (sp : Sp) (t : TA) : TE := fun σ H Q => t σ H fun vs H1 => sp vs H1 Q E0
theorem pe_callZD {X : Cx} {Z : Around → Prop} {f : Addr} {fd : FuncData} {ps : List Str} {sp : Sp} {x : Str} {p pos : Pos} {e : Expr} {es : List Expr} {t : TA} (F : FnZ Z X.prog X.w X.K X.mg X.base f fd ps sp) (hz : Z X.A) (hg : Gl X x) (hm : X.mg x = some (.ref f)) (hk : PySem.W.keepIn X.K (.ref f) = true) (hb : Binds X.K fd ps [])
    (ha : PA X (e :: es) t) (hdb : (x == ("__debug__" : Str)) = false := by decide) (he : starEach (e :: es) X.env = (false, eval e X.env) :: starEach es X.env := by rfl) (hpl : (backTo pos (starEach es X.env)).any (·.1) = false := by rfl) :
    PE X (.Call (.Name x p) (e :: es) [] pos) (tCallZ sp t) := pe_callZ F hz hg hm hk hb ha hdb he hpl
end L2
namespace Toy
open PySem L2
structure GvZ (Z : Around → Prop) (P : Program) (w : World) (K : PySem.W.Frag) (mg : Str → Option Value) (base : Heap) (x : Str) (f : Addr) (fd : FuncData) (ps : List Str) (sp : Sp) : Prop where
  ok : FnZ Z P w K mg base f fd ps sp
  b : Binds K fd ps []
  k : PySem.W.keepIn K (.ref f) = true
  m : mg x = some (.ref f)
/-- what may be judged -/
abbrev Jd (d : PyData) : Prop := Gd d 2 400000 110
def spJu (K : PySem.W.Frag) : Sp := fun vs H Q _ => ∃ (v : V) (d : PyData) (b : Bool), vs = [v, .bl b] ∧ Dq K H v d ∧ Jd d ∧ ∀ H', Same H H' → Q (.bl true) H'
theorem one_bl (a : Bool) : (PyData.bool a).showable = true ∧ (PyData.bool a).shown.length ≤ sizeLine ∧ (PyData.bool a).depth ≤ 60 := by
  have h : ∀ a : Bool, ((PyData.bool a).showable && (decide ((PyData.bool a).shown.length ≤ 100) && decide ((PyData.bool a).depth ≤ 60))) = true := by
    intro a
    cases a <;> decide +kernel
  have z := h a
  rw [Bool.and_eq_true, Bool.and_eq_true, decide_eq_true_eq, decide_eq_true_eq] at z
  exact ⟨z.1, Nat.le_trans z.2.1 (by decide), z.2.2⟩
def spSameA (K : PySem.W.Frag) : Sp := fun vs H Q _ => ∃ (v u : V) (d : PyData), vs = [v, u] ∧ Dq K H v d ∧ Dq K H u d ∧ d.showable = true ∧ d.shown.length ≤ sizeLine ∧ d.depth ≤ 300 ∧ Q (.bl true) H
theorem topP_of {K : PySem.W.Frag} {H : Hp} {v : V} {d : PyData} (h : Dq K H v d) : TopP K H v d := fun ds e => by
  subst e
  obtain ⟨a, xs, ev, hp, hA⟩ := dq_tupleP h
  exact ⟨a, xs, ev, hp, hA⟩
mutual
theorem dp_mono {K : PySem.W.Frag} {H H' : Hp} (e : Same H H') : ∀ {d : PyData} {v : V}, Dp K H v d → Dp K H' v d
  | .none, _, .non => .non
  | .bool _, _, .bl b => .bl b
  | .int _, _, .int i => .int i
  | .str _, _, .str x => .str x
  | .list ds, _, .lst h a => .lst (e.seq h) (dpAll_mono e a)
  | .tuple ds, _, .tup h a => .tup (e.seqT h) (dpAll_mono e a)
theorem dpAll_mono {K : PySem.W.Frag} {H H' : Hp} (e : Same H H') : ∀ {ds : List PyData} {vs : List V}, DpAll K H vs ds → DpAll K H' vs ds
  | [], _, .nil => .nil
  | d :: ds, _, .cons h r => .cons (dp_mono e h) (dpAll_mono e r)
end
section
variable {P : Program} {w : World} {K : PySem.W.Frag} {mg : Str → Option Value} {base : Heap} {C : Addr}
theorem scSa : FnScope ["told", "due"] ["told", "due"] (defScope sSame) := ⟨rfl, rfl, rfl, by decide +kernel, rfl, by decide +kernel, by decide +kernel⟩
theorem ok_sameA {f : Addr} {fd : FuncData} (F : Fun K "_law_same" "_law_same" sSame f fd) (T : Nm mg) : FnZ (RoomG 126) P w K mg base f fd ["told", "due"] (spSameA K) := by
  refine F.okZ true scSa (fun A z => z.depth) (fun _ A z => z.room.hd) (fun vs H Q E h => ?_) (fun cdv A outer s H vs Q hz h => ?_)
  · obtain ⟨v, u, d, rfl, _⟩ := h
    rfl
  obtain ⟨v, u, d, rfl, ha, hb, ok, sz, dp, q⟩ := h
  have hz' : ∀ env, RoomG 125 (A.deeper env) := fun env => hz.deeper env
  have hu : ∀ env, (A.deeper env).units + 400 < cLine := fun env => by
    have y := (hz' env).room.un
    omega
  refine ⟨_, pss_one (ps_ret (pe_cmpR op_eq (pe_callB (call_repA (hu _) (hz' _).gs) rfl T.repr (by decide +kernel) (pa_cons (pv 0) pa_nil)) (pe_callB (call_repA (hu _) (hz' _).gs) rfl T.repr (by decide +kernel) (pa_cons (pv 1) pa_nil)) (nomark _))), ?_⟩
  refine ⟨_, rfl, v, d, rfl, ha, ok, sz, dp, _, rfl, u, d, rfl, hb, ok, sz, dp, rfl, ?_⟩
  rw [decide_eq_true rfl]
  exact q
end
end Toy
set_option Elab.async false
set_option linter.all false
set_option maxRecDepth 100000
set_option maxHeartbeats 2000000
namespace Toy
open PySem L2 PyProof.Rows
abbrev sNamesL : Stmt := top 66
/-! ### names as written, drawn -/
def spWrt : Sp := fun vs H Q _ => ∃ (wl : Addr), vs = [.ref wl] ∧ WellAt H wl ∧ ∀ (x : Str) (H' : Hp), wrB x = true → txtOk x 8 → WellAt H' wl → But wl H H' → Q (.str x) H'
theorem lWr_wr : ∀ x ∈ lWr, wrB x = true := by
  have h : lWr.all wrB = true := by decide +kernel
  exact fun x m => List.all_eq_true.mp h x m
def wrX (x : Str) (i : Nat) : Prop := ∃ c r, x.cps.toList = c :: r ∧ capB c = true ∧ r.all smB = true ∧ r.length ≤ i
theorem wrX_wr {x : Str} {i : Nat} (h : wrX x i) (hi : i ≤ 7) : wrB x = true := by
  obtain ⟨c, r, e, h1, h2, h3⟩ := h
  show wrL x.cps.toList = true
  rw [e]
  show (decide (r.length ≤ 7) && (capB c && r.all smB)) = true
  rw [decide_eq_true (by omega), h1, h2]
  rfl
theorem wrX_snoc {x : Str} {i c : Nat} (h : wrX x i) (hc : c ∈ SMALLS.cps.toList) : wrX (x ++ ⟨#[c]⟩) (i + 1) := by
  obtain ⟨c0, r, e, h1, h2, h3⟩ := h
  refine ⟨c0, r ++ [c], ?_, h1, ?_, ?_⟩
  · rw [app_cps, e]
    rfl
  · rw [List.all_append, h2]
    show (smB c && true) = true
    rw [show smB c = true from decide_eq_true hc]
    rfl
  · rw [List.length_append, List.length_singleton]
    omega
theorem up_less {xs : List Str} (h : StrO.upS xs) (n : xs.Nodup) : xs.Pairwise fun x y => lessS x y = true := by
  refine (List.pairwise_iff_forall_sublist.mpr fun {x y} hs => ?_)
  have h1 := List.pairwise_iff_forall_sublist.mp h hs
  have h2 := List.pairwise_iff_forall_sublist.mp n hs
  refine decide_eq_true ?_
  have le : x.cps.toList ≤ y.cps.toList := List.not_lt.mp h1
  rcases Std.lt_trichotomy x.cps.toList y.cps.toList with z | z | z
  · exact z
  · exfalso
    refine h2 ?_
    have : x.cps = y.cps := Array.toList_inj.mp z
    cases x
    cases y
    simp only at this
    rw [this]
  · exact absurd z h1
def spNs (K : PySem.W.Frag) : Sp := fun vs H Q _ => ∃ (wl : Addr) (n : Nat), vs = [.ref wl, .int (n : Nat)] ∧ WellAt H wl ∧ 1 ≤ n ∧ n ≤ 10 ∧ ∀ (l : Addr) (ns : List Str) (H' : Hp), (∀ x ∈ ns, wrB x = true ∧ txtOk x 8) → ns ≠ [] → ns.length ≤ n → ns.Pairwise (fun x y => lessS x y = true) →
  H l = none → H' l = some (.lst (ns.map V.str)) → WellAt H' wl → But wl H H' → Q (.ref l) H'
section
variable {P : Program} {w : World} {K : PySem.W.Frag} {mg : Str → Option Value} {base : Heap}
theorem ok_writW {f gD gP : Addr} {fd dD dP : FuncData} (F : Fun K "_law_written" "_law_written" sWrit f fd) (R : Nr mg) (D : Gv P w K mg base 1 "_law_draw" gD dD ["well", "many"] spDraw) (PT' : Gv P w K mg base 2 "_law_pick" gP dP ["well", "some"] (spPick K)) (PS' : FnOk P w K mg base CX0 2 gP dP ["well", "some"] spPickS) : FnOk P w K mg base CX0 3 f fd ["well"] spWrt := by
  refine F.ok scWr (fun vs H Q E h => ?_) (fun cdv A outer s H vs Q E hr h => ?_)
  · obtain ⟨wl, rfl, _⟩ := h
    rfl
  obtain ⟨wl, rfl, hw, q⟩ := h
  have hr1 : Room 1 (A.deeper _) := hr.mono (by omega)
  refine ⟨_, pss_cons (ps_if (pt_cmpR op_eq (pe_call D.ok hr1 rfl D.m D.k D.b .nil pass0 (pa_cons (pv 0) (pa_cons pe_int pa_nil))) pe_int (nomark _))
      (pss_one (ps_ret (pe_call PT'.ok hr rfl PT'.m PT'.k PT'.b .nil pass0 (pa_cons (pv 0) (pa_cons (pe_tup (pa_cons pe_str (pa_cons pe_str (pa_cons pe_str (pa_cons pe_str (pa_cons pe_str (pa_cons pe_str (pa_cons pe_str (pa_cons pe_str pa_nil))))))))) pa_nil))))) pss_nil)
    (pss_cons (ps_set (i := 1) scWr.nd rfl (.inl rfl) (pe_call PS' hr rfl PT'.m PT'.k PT'.b .nil pass0 (pa_cons (pv 0) (pa_cons pe_str pa_nil))))
    (pss_cons (ps_for PassesOwn.never rfl (pi_range1 (by rfl) R.range (pa_cons (pe_call PT'.ok hr rfl PT'.m PT'.k PT'.b .nil pass0 (pa_cons (pv 0) (pa_cons (pe_tup (pa_cons pe_int (pa_cons pe_int (pa_cons pe_int (pa_cons pe_int (pa_cons pe_int (pa_cons pe_int (pa_cons pe_int pa_nil)))))))) pa_nil))) pa_nil)) (pg_name (i := 2) scWr.nd rfl (.inl rfl))
      (pss_one (ps_set (i := 1) scWr.nd rfl (.inl rfl) (pe_op op_add_str (pv 1) (pe_call PS' hr rfl PT'.m PT'.k PT'.b .nil pass0 (pa_cons (pv 0) (pa_cons pe_str pa_nil)))))))
    (pss_one (ps_ret (pv 1))))), ?_⟩
  have z3 : ∀ {k : Nat}, k ≤ 20 → k ≤ sizeLine := fun h => Nat.le_trans h (by decide)
  refine ⟨_, rfl, wl, 2, rfl, by decide, by decide, hw, fun d0 H1 _ _ w1 e1 => ⟨rfl, _, rfl, ?_⟩⟩
  refine ite2 (fun _ => ?_) (fun _ => ?_)
  · refine ⟨_, rfl, z3 (by show 8 ≤ 20; decide), fun t ht => ?_⟩
    refine ⟨wl, t, lWr.map V.str, rfl, well_new w1 ht _, SqT.of upd_same, by decide, by decide, fun v H2 hv w2 e2 => ?_⟩
    obtain ⟨x, hx, rfl⟩ := strs_of hv
    exact q x H2 (lWr_wr x hx) (lWr_ok x hx) w2 ((e1.trans (.new ht _)).trans e2)
  · refine ⟨_, rfl, wl, CAPS, rfl, w1, by decide, by decide, fun c H2 hc w2 e2 => ?_⟩
    have t2 : txtOk ⟨#[c]⟩ 1 := txt_one (by decide +kernel) hc
    have v2 : wrX ⟨#[c]⟩ 0 := ⟨c, [], rfl, decide_eq_true hc, rfl, Nat.le_refl 0⟩
    refine ⟨_, rfl, z3 (by show 7 ≤ 20; decide), fun t ht => ?_⟩
    refine ⟨wl, t, ([0, 0, 1, 2, 3, 6, 7] : List Int).map V.int, rfl, well_new w2 ht _, SqT.of upd_same, by decide, by decide, fun v H3 hv w3 e3 => ?_⟩
    obtain ⟨n, hn, rfl⟩ := ints_of hv
    have hn' : 0 ≤ n ∧ n ≤ 7 := by
      simp only [List.mem_cons, List.not_mem_nil, or_false] at hn
      omega
    refine ⟨n, rfl, by omega, by omega, ?_⟩
    have e13 : But wl H H3 := ((e1.trans e2).trans (.new ht _)).trans e3
    refine for_range (lo := 0) (n := n.toNat) (fun i σ H' => ∃ (x : Str) (c0 : Option V), σ = [some (.ref wl), some (.str x), c0] ∧ txtOk x (1 + i) ∧ wrX x i ∧ WellAt H' wl ∧ But wl H3 H') ⟨_, none, rfl, t2, v2, w3, But.refl H3⟩ ?_ ?_
    · rintro i σ H4 hi ⟨x, c0, rfl, tx, vx, w4, e4⟩
      refine ⟨_, rfl, _, rfl, wl, SMALLS, rfl, w4, by decide, by decide, fun c5 H5 hc5 w5 e5 => ?_⟩
      have t5 : txtOk ⟨#[c5]⟩ 1 := txt_one (by decide +kernel) hc5
      refine ⟨x, _, rfl, rfl, ?_, _, _, rfl, ?_, wrX_snoc vx hc5, w5, e4.trans e5⟩
      · have := tx.2
        have := t5.2
        exact z3 (by omega)
      · exact txt_up (txt_app tx t5) (by omega)
    · rintro σ H4 ⟨x, c0, rfl, tx, vx, w4, e4⟩
      exact ⟨_, rfl, q x H4 (wrX_wr vx (by omega)) (txt_up tx (by omega)) w4 (e13.trans e4)⟩
theorem scNs : FnScope ["well", "many", "found", "turn", "name"] ["well", "many"] (defScope sNamesL) := ⟨rfl, rfl, rfl, by decide +kernel, rfl, by decide +kernel, by decide +kernel⟩
theorem ok_names {f gW : Addr} {fd dW : FuncData} (F : Fun K "_law_names" "_law_names" sNamesL f fd) (R : Nr mg) (Sg : mg "sorted" = none) (W : Gv P w K mg base 3 "_law_written" gW dW ["well"] spWrt) : FnOk P w K mg base CX0 4 f fd ["well", "many"] (spNs K) := by
  refine F.ok scNs (fun vs H Q E h => ?_) (fun cdv A outer s H vs Q E hr h => ?_)
  · obtain ⟨wl, n, rfl, _⟩ := h
    rfl
  obtain ⟨wl, n, rfl, hw, h1, h10, q⟩ := h
  refine ⟨_, pss_cons (ps_set (i := 2) scNs.nd rfl (.inl rfl) (pe_lst pa_nil))
    (pss_cons (ps_for PassesOwn.never rfl (pi_range1 (by rfl) R.range (pa_cons (pv 1) pa_nil)) (pg_name (i := 3) scNs.nd rfl (.inl rfl))
      (pss_cons (ps_set (i := 4) scNs.nd rfl (.inl rfl) (pe_call W.ok hr rfl W.m W.k W.b .nil pass0 (pa_cons (pv 0) pa_nil)))
      (pss_one (ps_if (pt_cmpR op_notIn_seq (pv 4) (pv 2) (by rfl)) (pss_one (ps_expr (pe_bm PySem.F.plainAttrs_list PySem.F.slot_list_append PySem.F.type_list_append mt_append (pv 2) (pa_cons (pv 4) pa_nil)))) pss_nil))))
    (pss_one (ps_ret (pe_callB cr_sortedX rfl Sg (by decide +kernel) (pa_cons (pv 2) pa_nil))))), ?_⟩
  have z3 : ∀ {k : Nat}, k ≤ 20 → k ≤ sizeLine := fun h => Nat.le_trans h (by decide)
  refine ⟨z3 (by show 0 ≤ 20; decide), fun fl hfl => ?_⟩
  have w1 := well_new hw hfl (.lst [])
  have b1 : But wl H (upd H fl (.lst [])) := But.new hfl _
  have l1 : upd H fl (.lst []) fl = some (.lst []) := upd_same
  have nfl : fl ≠ wl := fun z => by rw [z] at hfl; exact well_ne hw hfl
  generalize upd H fl (.lst []) = H1 at w1 b1 l1 ⊢
  refine ⟨_, rfl, (n : Int), rfl, by omega, by omega, ?_⟩
  refine for_range (lo := 0) (n := n) (fun i σ H' => ∃ (ns : List Str) (c3 c4 : Option V), σ = [some (.ref wl), some (.int (n : Nat)), some (.ref fl), c3, c4] ∧ (∀ x ∈ ns, wrB x = true ∧ txtOk x 8) ∧ ns.length ≤ i ∧ (1 ≤ i → ns ≠ []) ∧ ns.Nodup ∧ H' fl = some (.lst (ns.map V.str)) ∧ WellAt H' wl ∧ But wl H H') ⟨[], none, none, rfl, fun _ h => (nomatch h), Nat.zero_le _, fun h => absurd h (by decide), .nil, l1, w1, b1⟩ ?_ ?_
  · rintro i σ H2 hi ⟨ns, c3, c4, rfl, hns, hlen, hne, hnd, hl, w2, b2⟩
    refine ⟨_, rfl, wl, rfl, w2, fun x H3 wx tx w3 b3 => ?_⟩
    have hl3 : H3 fl = some (.lst (ns.map V.str)) := b3 _ _ nfl hl
    refine ⟨_, rfl, _, rfl, fl, _, rfl, .inl (SqL.of hl3), rfl, flat_strs _, _, rfl, ?_⟩
    show if (!inV (V.str x) (ns.map V.str)) = true then _ else _
    rw [inV_names]
    cases hx : ns.any fun y => decide (y = x) with
    | true =>
      exact iteF ⟨ns, _, _, rfl, hns, by omega, (fun _ z => by rw [z] at hx; cases hx), hnd, hl3, w3, b2.trans b3⟩
    | false =>
      refine iteT ⟨_, rfl, .inl ⟨rfl, _, SqL.of hl3⟩, _, rfl, fl, ns.map V.str, .str x, rfl, rfl, hl3, ?_, ?_⟩
      · rw [List.length_map]
        exact Nat.lt_of_le_of_lt (by omega : ns.length ≤ 20) (by decide)
      · have fr : H fl = none := hfl
        refine ⟨ns ++ [x], _, _, rfl, fun y my => ?_, by rw [List.length_append, List.length_singleton]; omega, (fun _ z => by cases ns <;> cases z), ?_, (by rw [upd_same, List.map_append]; rfl), ?_, ?_⟩
        · rcases List.mem_append.mp my with my | my
          · exact hns y my
          · rw [List.mem_singleton.mp my]
            exact ⟨wx, tx⟩
        · refine List.nodup_append.mpr ⟨hnd, by simp, fun y my z mz => ?_⟩
          rw [List.mem_singleton.mp mz]
          intro e
          have := List.any_eq_false.mp hx y my
          exact this (decide_eq_true e)
        · obtain ⟨a, b, c, e⟩ := w3
          exact ⟨a, b, c, by rw [upd_ne (Ne.symm nfl)]; exact e⟩
        · intro b o nb e
          rw [upd_ne (ne_of_none e hfl)]
          exact (b2.trans b3) b o nb e
  · rintro σ H2 ⟨ns, c3, c4, rfl, hns, hlen, hne, hnd, hl, w2, b2⟩
    refine ⟨_, rfl, fl, ns, rfl, SqL.of hl, fun ys p hp hu hn => ?_⟩
    have s2 := same_new hn (.lst (ys.map V.str))
    refine q p ys _ (fun x m => hns x (hp.mem_iff.mp m)) (fun z => ?_) (by rw [hp.length_eq]; exact hlen) ?_ (b2.free w2 hn) upd_same (well_new w2 hn _) (b2.trans (.of s2))
    · subst z
      exact hne h1 hp.nil_eq.symm
    · exact up_less hu (hp.symm.nodup hnd)
end
end Toy
set_option Elab.async false
set_option linter.all false
set_option maxRecDepth 100000
set_option maxHeartbeats 4000000
namespace Toy
open PySem L2 PyProof.Rows
/-! ### kinds drawn: of names told -/
inductive KT (ok : Str → Prop) : Nat → PyData → Prop
  | one {n : Nat} {w : Str} : w3 w = true → KT ok (n + 1) (.tuple [.str w])
  | nam {n : Nat} {x : Str} : ok x → KT ok (n + 1) (.tuple [.str "name", .str x])
  | two {n : Nat} {w : Str} {a b : PyData} : w2 w = true → KT ok n a → KT ok n b → KT ok (n + 1) (.tuple [.str w, a, b])
theorem KT.row {ok : Str → Prop} {n : Nat} {w : Str} {a b : PyData} (h : 1 ≤ n) (hw : w2 w = true) (ha : KT ok (n - 1) a) (hb : KT ok (n - 1) b) : KT ok n (.tuple [.str w, a, b]) := by
  obtain ⟨m, rfl⟩ : ∃ m, n = m + 1 := ⟨n - 1, by omega⟩
  exact .two hw ha hb
theorem KT.one' {ok : Str → Prop} {n : Nat} {w : Str} (h : 1 ≤ n) (hw : w3 w = true) : KT ok n (.tuple [.str w]) := by
  obtain ⟨m, rfl⟩ : ∃ m, n = m + 1 := ⟨n - 1, by omega⟩
  exact .one hw
theorem KT.nam' {ok : Str → Prop} {n : Nat} {x : Str} (h : 1 ≤ n) (hx : ok x) : KT ok n (.tuple [.str "name", .str x]) := by
  obtain ⟨m, rfl⟩ : ∃ m, n = m + 1 := ⟨n - 1, by omega⟩
  exact .nam hx
theorem kt_words {x : Str} (h : x ∈ (["unit", "unit", "unit", "none"] : List Str)) : w3 x = true := by
  have z : (["unit", "unit", "unit", "none"] : List Str).all w3 = true := by decide +kernel
  exact List.all_eq_true.mp z x h
def DrawnK (K : PySem.W.Frag) (wl : Addr) (G H : Hp) (n : Nat) (ok : Str → Prop) (Q : VK) : Prop := ∀ (v : V) (H' G' : Hp) (d : PyData), Gr wl G H G' H' → Dq K G' v d → Gd d 0 (wk n) n → KT ok n d → Q v H'
def spKx (K : PySem.W.Frag) (n : Nat) : Sp := fun vs H Q _ => ∃ (wl l : Addr) (G : Hp) (xs : List Str), vs = [.ref wl, .ref l, .int (n : Nat)] ∧ Stt wl G H ∧ H l = some (.lst (xs.map V.str)) ∧ l ≠ wl ∧ xs.length ≤ 1000 ∧ (∀ x ∈ xs, txtOk x 60) ∧ 1 ≤ n ∧ DrawnK K wl G H n (· ∈ xs) Q
section
variable {P : Program} {w : World} {K : PySem.W.Frag} {mg : Str → Option Value} {base : Heap}
theorem ok_kindX {f gD gP : Addr} {fd dD dP : FuncData} {n k : Nat} {sp' : Sp} (hk : 2 ≤ k) (F : Fun K "_law_kind" "_law_kind" sKind f fd) (T : Nm mg) (D : Gv P w K mg base 1 "_law_draw" gD dD ["well", "many"] spDraw) (PT' : Gv P w K mg base 2 "_law_pick" gP dP ["well", "some"] (spPick K)) (PL : FnOk P w K mg base CX0 2 gP dP ["well", "some"] (spPickL K))
    (R : Gv P w K mg base k "_law_kind" f fd ["well", "names", "deep"] sp') (hR : 2 ≤ n → sp' = spKx K (n - 1)) : FnOk P w K mg base CX0 (k + 1) f fd ["well", "names", "deep"] (spKx K n) := by
  refine F.ok scKi (fun vs H Q E h => ?_) (fun cdv A outer s H vs Q E hr h => ?_)
  · obtain ⟨wl, l, G, xs, rfl, _⟩ := h
    rfl
  obtain ⟨wl, l, G, xs, rfl, st, hl, nl, hz, hx, hn, q⟩ := h
  have hr1 : Room 1 (A.deeper _) := hr.mono (by omega)
  have hr2 : Room 2 (A.deeper _) := hr.mono hk
  refine ⟨_, pss_cons (ps_set (i := 3) scKi.nd rfl (.inl rfl) (pe_ifExp (pt_cmpR op_gt (pv 2) pe_int (nomark _)) (pe_call D.ok hr1 rfl D.m D.k D.b .nil pass0 (pa_cons (pv 0) (pa_cons pe_int pa_nil))) (pe_call D.ok hr1 rfl D.m D.k D.b .nil pass0 (pa_cons (pv 0) (pa_cons pe_int pa_nil)))))
    (pss_cons (ps_if (PW.pt (pw_and (pt_cmpR op_lt (pv 3) pe_int (nomark _)) (pw_and1 (pt_cmpR op_gt (pe_callB call_len_seq rfl T.len PySem.boot_len (pa_cons (pv 1) pa_nil)) pe_int (nomark _)))))
      (pss_one (ps_ret (pe_tupN (pa_cons pe_str (pa_cons (pe_call PL hr2 rfl PT'.m PT'.k PT'.b .nil pass0 (pa_cons (pv 0) (pa_cons (pv 1) pa_nil))) pa_nil))))) pss_nil)
    (pss_cons (ps_if (pt_cmpR op_lt (pv 3) pe_int (nomark _)) (pss_one (ps_ret (pe_tupN (pa_cons (pe_ifExp (pt_cmpR op_eq (pv 3) pe_int (nomark _)) (pe_call PT'.ok hr2 rfl PT'.m PT'.k PT'.b .nil pass0 (pa_cons (pv 0) (pa_cons (pe_tup (pa_cons pe_str (pa_cons pe_str (pa_cons pe_str (pa_cons pe_str pa_nil))))) pa_nil))) pe_str) pa_nil)))) pss_nil)
    (pss_cons (ps_set (i := 4) scKi.nd rfl (.inl rfl) (pe_call R.ok hr rfl R.m R.k R.b .nil pass0 (pa_cons (pv 0) (pa_cons (pv 1) (pa_cons (pe_op op_sub (pv 2) pe_int) pa_nil)))))
    (pss_one (ps_ret (pe_tupN (pa_cons (pe_ifExp (pt_cmpR op_lt (pv 3) pe_int (nomark _)) pe_str pe_str) (pa_cons (pv 4) (pa_cons (pe_call R.ok hr rfl R.m R.k R.b .nil pass0 (pa_cons (pv 0) (pa_cons (pv 1) (pa_cons (pe_op op_sub (pv 2) pe_int) pa_nil)))) pa_nil))))))))), ?_⟩
  have z3 : ∀ {k : Nat}, k ≤ 20 → k ≤ sizeLine := fun h => Nat.le_trans h (by decide)
  refine ⟨_, rfl, _, _, rfl, rfl, _, rfl, ?_⟩
  refine ite2 (fun g => ⟨_, rfl, wl, 11, rfl, by decide, by decide, st.well, fun br H1 b0 b1 w1 e1 => ?a⟩) (fun g => ⟨_, rfl, wl, 5, rfl, by decide, by decide, st.well, fun br H1 b0 b1 w1 e1 => ?b⟩)
  case' a => have hb : br < 5 ∨ 2 ≤ n := .inr (by have : (n : Int) > 1 := of_decide_eq_true g; omega)
  case' b => have hb : br < 5 ∨ 2 ≤ n := .inl b1
  all_goals clear g b1
  all_goals
    have g1 := Gr.stay st w1 e1
    have st1 := g1.stt st
    have hl1 : H1 l = some (.lst (xs.map V.str)) := e1 l _ nl hl
    have tl : ∀ (x : Str) {m : Nat}, txtOk x m → m ≤ 60 → Gd (.tuple [.str "name", .str x]) 0 (wk n) n := fun x m hx hm => by
      have l4 : ("name" : Str).cps.size = 4 := by decide +kernel
      have lx : x.cps.size ≤ m := hx.2
      refine ⟨?_, ?_, ?_⟩
      · show (gdB 0 (.str "name") && (gdB 0 (.str x) && true)) = true
        rw [show gdB 0 (.str "name") = true by decide +kernel, (gd_str hx (j := 0) (by omega)).g]
        rfl
      · have := wk_low n
        simp only [PyData.weight, PyData.weightAll]
        omega
      · simp only [PyData.depth, PyData.depthAll]
        omega
    have tw : ∀ {x : Str}, txtOk x 8 → Gd (.tuple [.str x]) 0 (wk n) n := fun {x} hx => by
      have lx : x.cps.size ≤ 8 := hx.2
      refine ⟨?_, ?_, ?_⟩
      · show (gdB 0 (.str x) && true) = true
        rw [(gd_str hx (j := 0) (by omega)).g]
        rfl
      · have := wk_low n
        simp only [PyData.weight, PyData.weightAll]
        omega
      · simp only [PyData.depth, PyData.depthAll]
        omega
    refine ⟨_, rfl, _, _, rfl, rfl, _, rfl, ?_⟩
    refine joinR ?_ (fun r => by
      refine ite2 (fun g => ?_) (fun g => iteF r)
      refine ⟨_, rfl, l, _, rfl, .inl (SqL.of hl1), _, _, rfl, rfl, _, rfl, ?_⟩
      refine ite2 (fun g3 => ?_) (fun _ => r)
      have h1x : 1 ≤ xs.length := by
        have z : ((xs.map V.str).length : Int) > 0 := of_decide_eq_true g3
        rw [List.length_map] at z
        omega
      refine ⟨_, rfl, _, rfl, wl, l, xs.map V.str, rfl, w1, SqL.of hl1, nl, by rw [List.length_map]; omega, by rw [List.length_map]; omega, fun v H2 hv w2 e2 => ⟨z3 (by show 2 ≤ 20; decide), fun p ob hp hob => ?_⟩⟩
      obtain ⟨x, mx, rfl⟩ := strs_of hv
      have gg := Gr.stay st1 w2 e2
      obtain ⟨g3, D3⟩ := Gr.tup (K := K) (vs := [.str "name", .str x]) (ds := [.str "name", .str x]) (gg.stt st1) hp hob (.cons (.str _) (.cons (.str _) .nil))
      exact q _ _ _ _ ((g1.trans gg).trans g3) D3 (tl x (hx x mx) (Nat.le_refl _)) (.nam' hn mx))
    refine ⟨_, rfl, _, _, rfl, rfl, _, rfl, ?_⟩
    refine ite2 (fun g => ?_) (fun g => ?_)
    · refine ⟨_, rfl, rfl, _, rfl, ?_⟩
      refine ite2 (fun _ => ?_) (fun _ => ?_)
      · refine ⟨_, rfl, z3 (by show 4 ≤ 20; decide), fun t ht => ⟨wl, t, (["unit", "unit", "unit", "none"] : List Str).map V.str, rfl, well_new w1 ht _, SqT.of upd_same, by decide, by decide, fun v H2 hv w2 e2 => ⟨z3 (by show 1 ≤ 20; decide), fun p ob hp hob => ?_⟩⟩⟩
        obtain ⟨x, mx, rfl⟩ := strs_of hv
        have gg := Gr.stay st1 w2 ((But.new ht _).trans e2)
        obtain ⟨g3, D3⟩ := Gr.tup (K := K) (vs := [.str x]) (ds := [.str x]) (gg.stt st1) hp hob (.cons (.str _) .nil)
        exact q _ _ _ _ ((g1.trans gg).trans g3) D3 (tw (word_ok (by decide +kernel) mx)) (.one' hn (kt_words mx))
      · refine ⟨z3 (by show 1 ≤ 20; decide), fun p ob hp hob => ?_⟩
        obtain ⟨g3, D3⟩ := Gr.tup (K := K) (vs := [.str "thing"]) (ds := [.str "thing"]) st1 hp hob (.cons (.str _) .nil)
        exact q _ _ _ _ (g1.trans g3) D3 (tw ⟨by decide +kernel, by decide +kernel⟩) (.one' hn (by decide +kernel))
    · have g' : ¬ br < 5 := of_decide_eq_false (Bool.eq_false_iff.mpr g)
      have n2 : 2 ≤ n := by omega
      obtain rfl := hR n2
      have en : (V.int ((n : Nat) - 1 : Int)) = .int ((n - 1 : Nat) : Int) := by
        congr 1
        omega
      refine ⟨_, rfl, _, rfl, _, rfl, _, _, rfl, rfl, wl, l, G, xs, (by show [V.ref wl, V.ref l, V.int ((n : Nat) - 1 : Int)] = _; rw [en]), st1, hl1, nl, hz, hx, by omega, fun v2 H2 G2 d2 g2 D2 k2 t2 => ?_⟩
      have st2 := g2.stt st1
      have hl2 := g2.lst nl hl1
      refine ⟨_, rfl, _, _, rfl, rfl, _, rfl, ?_⟩
      have fin : ∀ (word : Str), txtOk word 8 → word.cps.size ≤ 6 → ∀ (v3 : V) (H3 G3 : Hp) (d3 : PyData), Gr wl G2 H2 G3 H3 → Dq K G3 v3 d3 → Gd d3 0 (wk (n - 1)) (n - 1) → KT (· ∈ xs) (n - 1) d3 → w2 word = true → ∀ p ob, H3 p = none → ob.dict = none → Q (.ref p) (upd H3 p (.frz ob (.tup [.str word, v2, v3]))) := fun word tw' lw v3 H3 G3 d3 g3 D3 k3 t3 hw2 p ob hp hob => by
        obtain ⟨g4, D4⟩ := Gr.tup (K := K) (vs := [.str word, v2, v3]) (ds := [.str word, d2, d3]) (g3.stt st2) hp hob (.cons (.str _) (.cons (g3.dq D2) (.cons D3 .nil)))
        refine q _ _ _ _ (((g1.trans g2).trans g3).trans g4) D4 ⟨?_, ?_, ?_⟩ (KT.row (by omega) hw2 t2 t3)
        · show (gdB 0 (.str word) && (gdB 0 d2 && (gdB 0 d3 && true))) = true
          rw [(gd_str tw' (j := 0) (by omega)).g, k2.g, k3.g]
          rfl
        · have e : wk n = 2 * wk (n - 1) + 9 := by
            obtain ⟨m, rfl⟩ : ∃ m, n = m + 2 := ⟨n - 2, by omega⟩
            rfl
          have a := k2.w
          have b := k3.w
          simp only [PyData.weight, PyData.weightAll]
          omega
        · have a := k2.k
          have b := k3.k
          simp only [PyData.depth, PyData.depthAll]
          omega
      refine ite2 (fun _ => ?_) (fun _ => ?_)
      · exact ⟨_, rfl, _, rfl, _, rfl, _, rfl, _, _, rfl, rfl, wl, l, G2, xs, (by show [V.ref wl, V.ref l, V.int ((n : Nat) - 1 : Int)] = _; rw [en]), st2, hl2, nl, hz, hx, by omega, fun v3 H3 G3 d3 g3 D3 k3 t3 => ⟨z3 (by show 3 ≤ 20; decide), fun p ob hp hob => fin "pair" ⟨by decide +kernel, by decide +kernel⟩ (by decide +kernel) v3 H3 G3 d3 g3 D3 k3 t3 (by decide +kernel) p ob hp hob⟩⟩
      · exact ⟨_, rfl, _, rfl, _, rfl, _, rfl, _, _, rfl, rfl, wl, l, G2, xs, (by show [V.ref wl, V.ref l, V.int ((n : Nat) - 1 : Int)] = _; rw [en]), st2, hl2, nl, hz, hx, by omega, fun v3 H3 G3 d3 g3 D3 k3 t3 => ⟨z3 (by show 3 ≤ 20; decide), fun p ob hp hob => fin "either" ⟨by decide +kernel, by decide +kernel⟩ (by decide +kernel) v3 H3 G3 d3 g3 D3 k3 t3 (by decide +kernel) p ob hp hob⟩⟩
theorem none_leftKX {f : Addr} {fd : FuncData} {k : Nat} : FnOk P w K mg base CX0 k f fd ["well", "names", "deep"] (fun _ _ _ _ => False) := ⟨fun _ _ _ _ h => h.elim, fun _ _ _ _ _ _ _ _ _ _ _ _ _ h => h.elim⟩
theorem kindsX {f gD gP : Addr} {fd dD dP : FuncData} (F : Fun K "_law_kind" "_law_kind" sKind f fd) (bF : Binds K fd ["well", "names", "deep"] []) (mF : mg "_law_kind" = some (.ref f)) (T : Nm mg) (D : Gv P w K mg base 1 "_law_draw" gD dD ["well", "many"] spDraw) (PT' : Gv P w K mg base 2 "_law_pick" gP dP ["well", "some"] (spPick K)) (PL : FnOk P w K mg base CX0 2 gP dP ["well", "some"] (spPickL K)) :
    ∀ n : Nat, Gv P w K mg base (3 + n) "_law_kind" f fd ["well", "names", "deep"] (spKx K n)
  | 0 => ⟨ok_kindX (n := 0) (Nat.le_refl 2) F T D PT' PL ⟨none_leftKX, bF, F.kp, mF⟩ (fun h => absurd h (by decide)), bF, F.kp, mF⟩
  | n + 1 => ⟨ok_kindX (n := n + 1) (k := 3 + n) (by omega) F T D PT' PL (kindsX F bF mF T D PT' PL n) (fun _ => rfl), bF, F.kp, mF⟩
end
end Toy
set_option Elab.async false
set_option linter.all false
set_option maxRecDepth 100000
set_option maxHeartbeats 4000000
namespace Toy
open PySem L2 PyProof.Rows
abbrev sBody : Stmt := top 67
theorem KT.up {ok : Str → Prop} {n m : Nat} {d : PyData} (t : KT ok n d) (h : n ≤ m) : KT ok m d := by
  induction t generalizing m with
  | one hw => exact .one' (by omega) hw
  | nam hx => exact .nam' (by omega) hx
  | two hw _ _ ia ib =>
    obtain ⟨k, rfl⟩ : ∃ k, m = k + 1 := ⟨m - 1, by omega⟩
    exact .two hw (ia (by omega)) (ib (by omega))
theorem KT.ok {ok ok' : Str → Prop} {n : Nat} {d : PyData} (t : KT ok n d) (h : ∀ x, ok x → ok' x) : KT ok' n d := by
  induction t with
  | one hw => exact .one hw
  | nam hx => exact .nam (h _ hx)
  | two hw _ _ ia ib => exact .two hw ia ib
theorem joinV {N C : V → Hp → Prop} {G : Prop} (h : ∀ v H, C v H → N v H) (k : (∀ v H, C v H → N v H) → G) : G := k h
theorem gd_pair {w : Str} {a b : PyData} {n : Nat} (hw : txtOk w 8) (h : 1 ≤ n) (ga : Gd a 0 (wk n) n) (gb : Gd b 0 (wk n) n) : Gd (.tuple [.str w, a, b]) 0 (2 * wk n + 11) (n + 1) := by
  have lw : w.cps.size ≤ 8 := hw.2
  refine ⟨?_, ?_, ?_⟩
  · show (gdB 0 (.str w) && (gdB 0 a && (gdB 0 b && true))) = true
    rw [(gd_str hw (j := 0) (by omega)).g, ga.g, gb.g]
    rfl
  · have x := ga.w
    have y := gb.w
    simp only [PyData.weight, PyData.weightAll]
    omega
  · have x := ga.k
    have y := gb.k
    simp only [PyData.depth, PyData.depthAll]
    omega
def DrawnB (K : PySem.W.Frag) (wl : Addr) (G H : Hp) (w n : Nat) (ok : Str → Prop) (Q : VK) : Prop := ∀ (v : V) (H' G' : Hp) (d : PyData), Gr wl G H G' H' → Dq K G' v d → Gd d 0 w n → KT ok n d → Q v H'
def spBo (K : PySem.W.Frag) : Sp := fun vs H Q _ => ∃ (wl l : Addr) (G : Hp) (xs : List Str), vs = [.ref wl, .ref l] ∧ Stt wl G H ∧ H l = some (.lst (xs.map V.str)) ∧ l ≠ wl ∧ 1 ≤ xs.length ∧ xs.length ≤ 1000 ∧ (∀ x ∈ xs, txtOk x 60) ∧ DrawnB K wl G H 5000 5 (· ∈ xs) Q
section
variable {P : Program} {w : World} {K : PySem.W.Frag} {mg : Str → Option Value} {base : Heap}
theorem scBo : FnScope ["well", "names", "way", "one", "two"] ["well", "names"] (defScope sBody) := ⟨rfl, rfl, rfl, by decide +kernel, rfl, by decide +kernel, by decide +kernel⟩
theorem ok_body {f gD gP gK : Addr} {fd dD dP dK : FuncData} (F : Fun K "_law_body" "_law_body" sBody f fd) (D : Gv P w K mg base 1 "_law_draw" gD dD ["well", "many"] spDraw) (PT' : Gv P w K mg base 2 "_law_pick" gP dP ["well", "some"] (spPick K)) (PL : FnOk P w K mg base CX0 2 gP dP ["well", "some"] (spPickL K))
    (KX2 : Gv P w K mg base 5 "_law_kind" gK dK ["well", "names", "deep"] (spKx K 2)) (KX3 : Gv P w K mg base 6 "_law_kind" gK dK ["well", "names", "deep"] (spKx K 3)) : FnOk P w K mg base CX0 7 f fd ["well", "names"] (spBo K) := by
  refine F.ok scBo (fun vs H Q E h => ?_) (fun cdv A outer s H vs Q E hr h => ?_)
  · obtain ⟨wl, l, G, xs, rfl, _⟩ := h
    rfl
  obtain ⟨wl, l, G, xs, rfl, st, hl, nl, h1x, hz, hx, q⟩ := h
  have hr6 : Room 6 (A.deeper _) := hr
  have hr5 : Room 5 (A.deeper _) := hr.mono (by omega)
  have hr2 : Room 2 (A.deeper _) := hr.mono (by omega)
  have hr1 : Room 1 (A.deeper _) := hr.mono (by omega)
  refine ⟨_, pss_cons (ps_set (i := 2) scBo.nd rfl (.inl rfl) (pe_call D.ok hr1 rfl D.m D.k D.b .nil pass0 (pa_cons (pv 0) (pa_cons pe_int pa_nil))))
    (pss_cons (ps_if (pt_cmpR op_eq (pv 2) pe_int (nomark _)) (pss_one (ps_ret (pe_call KX3.ok hr6 rfl KX3.m KX3.k KX3.b .nil pass0 (pa_cons (pv 0) (pa_cons (pv 1) (pa_cons pe_int pa_nil)))))) pss_nil)
    (pss_cons (ps_if (pt_cmpR op_eq (pv 2) pe_int (nomark _)) (pss_one (ps_ret (pe_tupN (pa_cons pe_str (pa_cons (pe_call PL hr2 rfl PT'.m PT'.k PT'.b .nil pass0 (pa_cons (pv 0) (pa_cons (pv 1) pa_nil))) pa_nil))))) pss_nil)
    (pss_cons (ps_set (i := 3) scBo.nd rfl (.inl rfl) (pe_call KX2.ok hr5 rfl KX2.m KX2.k KX2.b .nil pass0 (pa_cons (pv 0) (pa_cons (pe_lst pa_nil) (pa_cons pe_int pa_nil)))))
    (pss_cons (ps_set (i := 4) scBo.nd rfl (.inl rfl) (pe_call KX3.ok hr6 rfl KX3.m KX3.k KX3.b .nil pass0 (pa_cons (pv 0) (pa_cons (pv 1) (pa_cons pe_int pa_nil)))))
    (pss_cons (ps_if (pt_cmpR op_gt (pv 2) pe_int (nomark _)) (pss_one (ps_set (i := 4) scBo.nd rfl (.inl rfl) (pe_tupN (pa_cons pe_str (pa_cons (pe_call PT'.ok hr2 rfl PT'.m PT'.k PT'.b .nil pass0 (pa_cons (pv 0) (pa_cons (pe_tup (pa_cons (pe_tupN (pa_cons pe_str pa_nil)) (pa_cons (pe_tupN (pa_cons pe_str (pa_cons (pe_call PL hr2 rfl PT'.m PT'.k PT'.b .nil pass0 (pa_cons (pv 0) (pa_cons (pv 1) pa_nil))) pa_nil))) (pa_cons (pv 4) pa_nil)))) pa_nil))) (pa_cons (pv 4) pa_nil)))))) pss_nil)
    (pss_one (ps_ret (pe_ifExp (pt_cmpR op_lt (pv 2) pe_int (nomark _)) (pe_tupN (pa_cons pe_str (pa_cons (pv 3) (pa_cons (pv 4) pa_nil)))) (pe_tupN (pa_cons pe_str (pa_cons (pv 4) (pa_cons (pv 3) pa_nil)))))))))))), ?_⟩
  have z3 : ∀ {k : Nat}, k ≤ 20 → k ≤ sizeLine := fun h => Nat.le_trans h (by decide)
  refine ⟨_, rfl, wl, 11, rfl, by decide, by decide, st.well, fun way H1 b0 b1 w1 e1 => ?_⟩
  have g1 := Gr.stay st w1 e1
  have st1 := g1.stt st
  have hl1 : H1 l = some (.lst (xs.map V.str)) := e1 l _ nl hl
  refine ⟨_, rfl, rfl, _, rfl, ?_⟩
  refine ite2 (fun _ => ?_) (fun _ => ?_)
  · exact ⟨_, rfl, _, rfl, wl, l, G, xs, rfl, st1, hl1, nl, hz, hx, by decide, fun v H2 G2 d g2 D2 k2 t2 => q v H2 G2 d (g1.trans g2) D2 (k2.up (Nat.le_refl 0) (by decide) (by decide)) (t2.up (by decide))⟩
  refine ⟨_, rfl, rfl, _, rfl, ?_⟩
  refine ite2 (fun _ => ?_) (fun _ => ?_)
  · refine ⟨_, rfl, _, rfl, wl, l, xs.map V.str, rfl, w1, SqL.of hl1, nl, by rw [List.length_map]; omega, by rw [List.length_map]; omega, fun v H2 hv w2 e2 => ⟨z3 (by show 2 ≤ 20; decide), fun p ob hp hob => ?_⟩⟩
    obtain ⟨x, mx, rfl⟩ := strs_of hv
    have gg := Gr.stay st1 w2 e2
    obtain ⟨g3, D3⟩ := Gr.tup (K := K) (vs := [.str "name", .str x]) (ds := [.str "name", .str x]) (gg.stt st1) hp hob (.cons (.str _) (.cons (.str _) .nil))
    exact q _ _ _ _ ((g1.trans gg).trans g3) D3 ((gd_name (hx x mx) (by decide : 60 ≤ 100 + 0)).up (Nat.le_refl 0) (by decide) (by decide)) (.nam mx)
  refine ⟨_, rfl, z3 (by show 0 ≤ 20; decide), fun l0 hl0 => ?_⟩
  have g2 := Gr.same st1 (same_new hl0 (.lst []))
  have nl0 : l0 ≠ wl := fun z => by rw [z] at hl0; exact well_ne st1.well hl0
  have hl2 : upd H1 l0 (.lst []) l = some (.lst (xs.map V.str)) := same_new hl0 _ _ _ hl1
  refine ⟨wl, l0, G, [], rfl, g2.stt st1, upd_same, nl0, by decide, fun _ h => (nomatch h), by decide, fun v3 H3 G3 d3 g3 D3 k3 t3 => ?_⟩
  have st3 := g3.stt (g2.stt st1)
  have hl3 := g3.lst nl hl2
  refine ⟨_, rfl, _, rfl, wl, l, G3, xs, rfl, st3, hl3, nl, hz, hx, by decide, fun v4 H4 G4 d4 g4 D4 k4 t4 => ?_⟩
  have st4 := g4.stt st3
  have hl4 := g4.lst nl hl3
  have gAll := ((g1.trans g2).trans g3).trans g4
  refine ⟨_, rfl, _, _, rfl, rfl, _, rfl, ?_⟩
  refine joinV (C := fun v5 H5 => ∃ G5 d5, Gr wl G4 H4 G5 H5 ∧ Dq K G5 v5 d5 ∧ Gd d5 0 2000 4 ∧ KT (· ∈ xs) 4 d5) ?fin (fun fin => by
    refine ite2 ?_ ?_
    rotate_left
    · intro _
      generalize ev : v4 = va
      generalize eH : H4 = Ha
      exact fin va Ha ⟨G4, d4, by rw [← eH]; exact Gr.refl st4, by rw [← ev]; exact D4, k4.up (Nat.le_refl 0) (by decide) (by decide), t4.up (by decide)⟩
    · intro _
      refine ⟨_, rfl, z3 (by show 1 ≤ 20; decide), fun t1 o1 h1 e1' => ?_⟩
      obtain ⟨ga, Da⟩ := Gr.tup (K := K) (vs := [.str "thing"]) (ds := [.str "thing"]) st4 h1 e1' (.cons (.str _) .nil)
      have sta := ga.stt st4
      have hla := ga.lst nl hl4
      refine ⟨_, rfl, _, rfl, wl, l, xs.map V.str, rfl, sta.well, SqL.of hla, nl, by rw [List.length_map]; omega, by rw [List.length_map]; omega, fun v H6 hv w6 e6 => ⟨z3 (by show 2 ≤ 20; decide), fun t2 o2 h2 e2' => ?_⟩⟩
      obtain ⟨x, mx, rfl⟩ := strs_of hv
      have gb := Gr.stay sta w6 e6
      obtain ⟨gc, Dc⟩ := Gr.tup (K := K) (vs := [.str "name", .str x]) (ds := [.str "name", .str x]) (gb.stt sta) h2 e2' (.cons (.str _) (.cons (.str _) .nil))
      have gabc := (ga.trans gb).trans gc
      have stc := gabc.stt st4
      refine ⟨_, rfl, z3 (by show 3 ≤ 20; decide), fun t3' h3' => ?_⟩
      have gd' := Gr.same stc (same_new h3' (.tup [.ref t1, .ref t2, v4]))
      have gE := gabc.trans gd'
      refine ⟨wl, t3', [.ref t1, .ref t2, v4], rfl, (gd'.stt stc).well, SqT.of upd_same, by show 1 ≤ 3; decide, by show 3 < 1073741824; decide, fun v H8 hv8 w8 e8 => ?_⟩
      have gF := Gr.stay (gd'.stt stc) w8 e8
      have gG := gE.trans gF
      have tp : txtOk "pair" 8 := ⟨by decide +kernel, by decide +kernel⟩
      have wp : w2 "pair" = true := by decide +kernel
      obtain ⟨dv, Dv, kv, tv⟩ : ∃ dv, Dq K _ v dv ∧ Gd dv 0 (wk 3) 3 ∧ KT (· ∈ xs) 3 dv := by
        rcases List.mem_cons.mp hv8 with rfl | hv8
        · exact ⟨_, (gc.dq (gb.dq Da)), (gd_word (j := 0) (x := "thing") ⟨by decide +kernel, by decide +kernel⟩).up (Nat.le_refl 0) (by decide) (by decide), .one (by decide +kernel)⟩
        · rcases List.mem_cons.mp hv8 with rfl | hv8
          · exact ⟨_, Dc, (gd_name (hx x mx) (by decide : 60 ≤ 100 + 0)).up (Nat.le_refl 0) (by decide) (by decide), .nam mx⟩
          · rw [List.mem_singleton.mp hv8]
            exact ⟨_, gabc.dq D4, k4, t4⟩
      refine ⟨_, rfl, z3 (by show 3 ≤ 20; decide), fun p ob hp hob => ?_⟩
      obtain ⟨gH, DH⟩ := Gr.tup (K := K) (vs := [.str "pair", v, v4]) (ds := [.str "pair", dv, d4]) (gG.stt st4) hp hob (.cons (.str _) (.cons Dv (.cons (gabc.dq D4) .nil)))
      have res := fin _ _ ⟨_, _, gG.trans gH, DH, (gd_row (K := K) tp kv k4).up (Nat.le_refl 0) (by decide) (by decide), .two wp tv t4⟩
      exact res)
  rintro v5 H5 ⟨G5, d5, g5, D5, k5, t5⟩
  have D35 := g5.dq (g4.dq D3)
  have gAll5 := gAll.trans g5
  have t3' : KT (· ∈ xs) 4 d3 := (t3.ok fun x h => nomatch h).up (by decide)
  have k3' : Gd d3 0 2000 4 := k3.up (Nat.le_refl 0) (by decide) (by decide)
  have te : txtOk "either" 8 := ⟨by decide +kernel, by decide +kernel⟩
  have we : w2 "either" = true := by decide +kernel
  refine ⟨_, rfl, _, _, rfl, rfl, _, rfl, ?_⟩
  refine ite2 (fun _ => ?_) (fun _ => ?_)
  · refine ⟨_, rfl, _, rfl, z3 (by show 3 ≤ 20; decide), fun p ob hp hob => ?_⟩
    obtain ⟨g6, D6⟩ := Gr.tup (K := K) (vs := [.str "either", v3, v5]) (ds := [.str "either", d3, d5]) (g5.stt st4) hp hob (.cons (.str _) (.cons D35 (.cons D5 .nil)))
    exact q _ _ _ _ (gAll5.trans g6) D6 ((gd_row (K := K) te k3' k5).up (Nat.le_refl 0) (by decide) (by decide)) (.two we t3' t5)
  · refine ⟨_, rfl, _, rfl, z3 (by show 3 ≤ 20; decide), fun p ob hp hob => ?_⟩
    obtain ⟨g6, D6⟩ := Gr.tup (K := K) (vs := [.str "either", v5, v3]) (ds := [.str "either", d5, d3]) (g5.stt st4) hp hob (.cons (.str _) (.cons D5 (.cons D35 .nil)))
    exact q _ _ _ _ (gAll5.trans g6) D6 ((gd_row (K := K) te k5 k3').up (Nat.le_refl 0) (by decide) (by decide)) (.two we t5 t3')
end
end Toy
set_option Elab.async false
set_option linter.all false
set_option maxRecDepth 100000
set_option maxHeartbeats 4000000
namespace Toy
open PySem L2 PyProof.Rows
abbrev sBook : Stmt := top 68
/-- the rows of a drawn book -/
def RowsB (ns : List Str) (ds : List PyData) : Prop := ∀ r ∈ ds, ∃ y k, r = .tuple [.str y, k] ∧ wrB y = true ∧ txtOk y 8 ∧ KT (· ∈ ns) 5 k ∧ Gd k 0 5000 5
structure BookD (ns : List Str) (ds : List PyData) : Prop where
  names : ds.map rowN = ns
  rows : RowsB ns ds
  up : ns.Pairwise fun x y => lessS x y = true
  ne : ns ≠ []
  few : ns.length ≤ 4
def spBk (K : PySem.W.Frag) : Sp := fun vs H Q _ => ∃ (wl : Addr) (G : Hp), vs = [.ref wl] ∧ Stt wl G H ∧ ∀ (v : V) (H' G' : Hp) (ns : List Str) (ds : List PyData), Gr wl G H G' H' → Dq K G' v (.tuple ds) → BookD ns ds → Q v H'
section
variable {P : Program} {w : World} {K : PySem.W.Frag} {mg : Str → Option Value} {base : Heap}
theorem scBk : FnScope ["well", "names", "found", "name"] ["well"] (defScope sBook) := ⟨rfl, rfl, rfl, by decide +kernel, rfl, by decide +kernel, by decide +kernel⟩
theorem ok_book {f gN gP gB : Addr} {fd dN dP dB : FuncData} (F : Fun K "_law_book" "_law_book" sBook f fd) (TU : mg "tuple" = none) (NS : Gv P w K mg base 4 "_law_names" gN dN ["well", "many"] (spNs K)) (PT' : Gv P w K mg base 2 "_law_pick" gP dP ["well", "some"] (spPick K))
    (BO : Gv P w K mg base 7 "_law_body" gB dB ["well", "names"] (spBo K)) : FnOk P w K mg base CX0 8 f fd ["well"] (spBk K) := by
  refine F.ok scBk (fun vs H Q E h => ?_) (fun cdv A outer s H vs Q E hr h => ?_)
  · obtain ⟨wl, G, rfl, _⟩ := h
    rfl
  obtain ⟨wl, G, rfl, st, q⟩ := h
  have hr4 : Room 4 (A.deeper _) := hr.mono (by omega)
  have hr2 : Room 2 (A.deeper _) := hr.mono (by omega)
  refine ⟨_, pss_cons (ps_par (i := 1) (j := 2) rfl scBk.nd rfl rfl (by decide) rfl rfl (pa_cons (pe_call NS.ok hr4 rfl NS.m NS.k NS.b .nil pass0 (pa_cons (pv 0) (pa_cons (pe_call PT'.ok hr2 rfl PT'.m PT'.k PT'.b .nil pass0 (pa_cons (pv 0) (pa_cons (pe_tup (pa_cons pe_int (pa_cons pe_int (pa_cons pe_int (pa_cons pe_int (pa_cons pe_int pa_nil)))))) pa_nil))) pa_nil))) (pa_cons (pe_lst pa_nil) pa_nil)) rfl)
    (pss_cons (ps_for PassesOwn.never rfl (pi_list (pv 1)) (pg_name (i := 3) scBk.nd rfl (.inl rfl)) (pss_one (ps_expr (pe_bm PySem.F.plainAttrs_list PySem.F.slot_list_append PySem.F.type_list_append mt_append (pv 2) (pa_cons (pe_tupN (pa_cons (pv 3) (pa_cons (pe_call BO.ok hr rfl BO.m BO.k BO.b .nil pass0 (pa_cons (pv 0) (pa_cons (pv 1) pa_nil))) pa_nil))) pa_nil)))))
    (pss_one (ps_ret (pe_callTy call_tupleN rfl TU (by decide +kernel) (pa_cons (pv 2) pa_nil))))), ?_⟩
  have z3 : ∀ {k : Nat}, k ≤ 20 → k ≤ sizeLine := fun h => Nat.le_trans h (by decide)
  refine ⟨_, rfl, _, rfl, z3 (by show 5 ≤ 20; decide), fun t ht => ?_⟩
  have g1 := Gr.same st (same_new ht (.tup (([1, 2, 2, 3, 4] : List Int).map V.int)))
  have st1 := g1.stt st
  refine ⟨wl, t, ([1, 2, 2, 3, 4] : List Int).map V.int, rfl, st1.well, SqT.of upd_same, by decide, by decide, fun v H2 hv w2 e2 => ?_⟩
  obtain ⟨n, hn, rfl⟩ := ints_of hv
  obtain ⟨k, rfl, hk1, hk4⟩ : ∃ k : Nat, n = (k : Int) ∧ 1 ≤ k ∧ k ≤ 4 := by
    simp only [List.mem_cons, List.not_mem_nil, or_false] at hn
    exact ⟨n.toNat, by omega, by omega, by omega⟩
  have g2 := Gr.stay st1 w2 e2
  have st2 := g2.stt st1
  refine ⟨wl, k, rfl, w2, hk1, by omega, fun l ns H3 hns hne hlen hup hl0 hl3 w3 e3 => ?_⟩
  have g3 := Gr.stay st2 w3 e3
  have st3 := g3.stt st2
  have gl3 : G l = none := by
    cases z : G l with
    | none => rfl
    | some o => rw [st2.sub _ _ z] at hl0; cases hl0
  have nl : l ≠ wl := fun z => by
    rw [z] at hl0
    exact well_ne w2 hl0
  refine ⟨z3 (by show 0 ≤ 20; decide), fun fl hfl => ?_⟩
  have g4 := Gr.same st3 (same_new hfl (.lst []))
  have g14 := ((g1.trans g2).trans g3).trans g4
  have hf4 : upd H3 fl (.lst []) fl = some (.lst []) := upd_same
  have hl4 : upd H3 fl (.lst []) l = some (.lst (ns.map V.str)) := same_new hfl _ _ _ hl3
  have nfl : fl ≠ wl := fun z => by
    rw [z] at hfl
    exact well_ne w3 hfl
  have nlf : l ≠ fl := fun z => by
    rw [z, hfl] at hl3
    cases hl3
  have fH : H fl = none := ((((g1.trans g2).trans g3).but).free w3 hfl)
  have gf : G fl = none := by
    cases z : G fl with
    | none => rfl
    | some o => rw [st.sub _ _ z] at fH; cases fH
  refine ⟨_, _, rfl, ?_⟩
  generalize upd H3 fl (.lst []) = H4 at g4 g14 hf4 hl4 ⊢
  have few : ns.length ≤ 4 := by omega
  refine ⟨_, rfl, l, rfl, ⟨_, SqL.of hl4⟩, ?_⟩
  refine for_it (walk_list (xs := ns.map V.str)) (fun i σ H' => ∃ G' zs es c, σ = [some (.ref wl), some (.ref l), some (.ref fl), c] ∧ Gr wl G H G' H' ∧ G' fl = none ∧ H' fl = some (.lst zs) ∧ H' l = some (.lst (ns.map V.str)) ∧ DqAll K G' zs es ∧ zs.length = i ∧ es.map rowN = ns.take i ∧ RowsB ns es)
    ⟨G, [], [], none, rfl, g14, gf, hf4, hl4, .nil, rfl, rfl, fun _ h => (nomatch h)⟩ (fun i σ H' _ ⟨G', zs, es, c, _, _, _, _, z, _⟩ => SqL.of z) ?_ ?_
  · rintro i y σ H5 H6 hi ⟨G5, zs, es, c, rfl, g5, gf5, hf5, hl5, hE, hzl, hnm, hrw⟩ ⟨rfl, hy⟩
    obtain ⟨x, hx, rfl⟩ : ∃ x, ns[i]? = some x ∧ V.str x = y := by
      rw [List.getElem?_map] at hy
      cases z : ns[i]? with
      | none => rw [z] at hy; cases hy
      | some x => rw [z] at hy; exact ⟨x, rfl, Option.some.inj hy⟩
    obtain ⟨hwx, htx⟩ := hns x (List.mem_of_getElem? hx)
    have st5 := g5.stt st
    have h1n : 1 ≤ ns.length := by cases ns with
      | nil => exact absurd rfl hne
      | cons a b => simp
    refine ⟨_, rfl, .inl ⟨rfl, _, SqL.of hf5⟩, _, rfl, _, rfl, _, rfl, wl, l, G5, ns, rfl, st5, hl5, nl, h1n, by omega, fun z hz => txt_up (hns z hz).2 (by omega), fun v7 H7 G7 d7 g7 D7 k7 t7 => ?_⟩
    refine ⟨z3 (by show 2 ≤ 20; decide), fun p ob hp hob => ?_⟩
    obtain ⟨g8, D8⟩ := Gr.tup (K := K) (vs := [.str x, v7]) (ds := [.str x, d7]) (g7.stt st5) hp hob (.cons (.str _) (.cons D7 .nil))
    have g78 := g7.trans g8
    have hf8 := g78.lst nfl hf5
    have hl8 := g78.lst nl hl5
    have gf8 := g78.off gf5 (by rw [hf5]; exact fun z => nomatch z)
    refine ⟨fl, zs, _, rfl, rfl, hf8, Nat.lt_of_le_of_lt (by rw [List.length_map] at hi; omega : zs.length ≤ 20) (by decide), ?_⟩
    refine ⟨_, zs ++ [.ref p], es ++ [.tuple [.str x, d7]], _, rfl, (g5.trans g78).ownL fH gf8 nfl _, gf8, upd_same, by rw [upd_ne nlf]; exact hl8, (DqAll.mono g78.gg _ _ hE).append (.cons D8 .nil), by rw [List.length_append, hzl]; rfl, ?_, fun r mr => ?_⟩
    · rw [List.map_append, hnm, List.take_add_one, hx]
      rfl
    · rcases List.mem_append.mp mr with mr | mr
      · exact hrw r mr
      · rw [List.mem_singleton.mp mr]
        exact ⟨x, d7, rfl, hwx, htx, t7, k7⟩
  · rintro σ H5 ⟨G5, zs, es, c, rfl, g5, gf5, hf5, hl5, hE, hzl, hnm, hrw⟩
    rw [List.length_map, List.take_length] at hnm
    refine ⟨_, rfl, fl, zs, rfl, .inl ⟨SqL.of hf5, fun p ob hp hob => ?_⟩⟩
    obtain ⟨g6, D6⟩ := Gr.tup (K := K) (vs := zs) (ds := es) (g5.stt st) hp hob hE
    exact q _ _ _ ns es (g5.trans g6) D6 ⟨hnm, hrw, hup, hne, few⟩
end
end Toy
set_option Elab.async false
set_option linter.all false
set_option maxRecDepth 100000
set_option maxHeartbeats 1000000
namespace Toy
open PySem L2 PyProof.Rows
/-! ### a drawn book is one -/
theorem wr_name {y : Str} (h : wrB y = true) (hl : y.length ≤ 60) : nmB (.str y) = true := by
  show (decide (y.length ≤ 60) && namL (Txt.split y quo)) = true
  rw [split_one (wr_tick h), decide_eq_true hl]
  show (true && (wrB y && true)) = true
  rw [h]
  rfl
theorem kt_facts {ok : Str → Prop} (ho : ∀ x, ok x → nmB (.str x) = true) : ∀ {n : Nat} {d : PyData}, KT ok n d → ∀ {m : Nat}, n ≤ m → fB m d = true ∧ (ms m d).1 ≤ n ∧ (ms m d).2.1 + 1 ≤ 2 ^ n ∧ ∀ x ∈ (ms m d).2.2, ok x := by
  intro n d t
  induction t with
  | @one n w hw =>
    intro m hm
    obtain ⟨m, rfl⟩ : ∃ k, m = k + 1 := ⟨m - 1, by omega⟩
    have e : ms (m + 1) (.tuple [.str w]) = (1, 1, []) := rfl
    have p : 2 ^ 1 ≤ 2 ^ (n + 1) := Nat.pow_le_pow_right (by decide) (by omega)
    rw [e, fB_one]
    exact ⟨hw, by show 1 ≤ n + 1; omega, by show 1 + 1 ≤ _; omega, fun _ h => nomatch h⟩
  | @nam n x hx =>
    intro m hm
    obtain ⟨m, rfl⟩ : ∃ k, m = k + 1 := ⟨m - 1, by omega⟩
    have e : ms (m + 1) (.tuple [.str "name", .str x]) = (1, 1, [x]) := rfl
    have p : 2 ^ 1 ≤ 2 ^ (n + 1) := Nat.pow_le_pow_right (by decide) (by omega)
    rw [e, fB_nam, ho x hx]
    exact ⟨by decide +kernel, by show 1 ≤ n + 1; omega, by show 1 + 1 ≤ _; omega, fun y h => by rw [List.mem_singleton.mp h]; exact hx⟩
  | @two n w a b hw _ _ ia ib =>
    intro m hm
    obtain ⟨m, rfl⟩ : ∃ k, m = k + 1 := ⟨m - 1, by omega⟩
    obtain ⟨a1, a2, a3, a4⟩ := ia (m := m) (by omega)
    obtain ⟨b1, b2, b3, b4⟩ := ib (m := m) (by omega)
    have e : ms (m + 1) (.tuple [.str w, a, b]) = two (ms m a) (ms m b) := rfl
    rw [e, fB_two, hw, a1, b1]
    refine ⟨rfl, ?_, ?_, fun x h => ?_⟩
    · show max _ _ + 1 ≤ _
      omega
    · show (ms m a).2.1 + (ms m b).2.1 + 1 + 1 ≤ _
      have : 2 ^ (n + 1) = 2 ^ n * 2 := Nat.pow_succ ..
      omega
    · have h' : x ∈ (ms m a).2.2 ++ (ms m b).2.2 := h
      rcases List.mem_append.mp h' with z | z
      · exact a4 x z
      · exact b4 x z
theorem up_of {m : Nat} : ∀ {ds : List PyData} {p : Str}, (∀ r ∈ ds, ∃ y k, r = .tuple [.str y, k] ∧ nmB (.str y) = true ∧ kdB m k = true ∧ lessS p y = true) → (ds.Pairwise fun r s => lessS (rowN r) (rowN s) = true) → upB m p ds = true
  | [], _, _, _ => rfl
  | r :: ds, p, h, u => by
    obtain ⟨y, k, rfl, h1, h2, h3⟩ := h r List.mem_cons_self
    obtain ⟨u1, u2⟩ := List.pairwise_cons.mp u
    show (pairB m p (.tuple [.str y, k]) && upB m y ds) = true
    have e : pairB m p (.tuple [.str y, k]) = true := by
      show (nmB (.str y) && (lessS p y && kdB m k)) = true
      rw [h1, h2, h3]
      rfl
    rw [e, Bool.true_and]
    refine up_of (fun s ms => ?_) u2
    obtain ⟨y', k', rfl, a1, a2, _⟩ := h s (List.mem_cons_of_mem _ ms)
    exact ⟨y', k', rfl, a1, a2, u1 _ ms⟩
/-- what makes a row of pairs a book -/
theorem tb_of {m : Nat} {ds : List PyData} (hl : ds.length ≤ 80) (hr : ∀ r ∈ ds, ∃ y k, r = .tuple [.str y, k] ∧ nmB (.str y) = true ∧ knB m (bkOf (.tuple ds)) k = true ∧ ruB m (bkOf (.tuple ds)) y k = true)
    (hu : ds.Pairwise fun r s => lessS (rowN r) (rowN s) = true) : tbB m (.tuple ds) = true := by
  have e1 : cpB m (.tuple ds) = true := by
    show (decide (ds.length ≤ 80) && upB m "" ds) = true
    rw [decide_eq_true hl, Bool.true_and]
    refine up_of (fun r mr => ?_) hu
    obtain ⟨y, k, e, h1, h2, h3⟩ := hr r mr
    unfold knB at h2
    rw [Bool.and_eq_true] at h2
    exact ⟨y, k, e, h1, h2.1, less_emp h1⟩
  unfold tbB
  rw [e1, Bool.true_and, Bool.and_eq_true, List.all_eq_true, List.all_eq_true]
  refine ⟨fun p mp => ?_, fun p mp => ?_⟩
  · obtain ⟨r, mr, rfl⟩ := List.mem_map.mp mp
    obtain ⟨y, k, rfl, _, h2, _⟩ := hr r mr
    exact h2
  · obtain ⟨r, mr, rfl⟩ := List.mem_map.mp mp
    obtain ⟨y, k, rfl, _, _, h3⟩ := hr r mr
    exact h3
theorem look_some {x : Str} {bk : List (Str × PyData)} (h : x ∈ bk.map (·.1)) : (lookB bk x).isSome = true := by
  rw [look_names]
  exact List.any_eq_true.mpr ⟨x, h, decide_eq_true rfl⟩
theorem bookD_ok {m : Nat} {ns : List Str} {ds : List PyData} (hm : 30 ≤ m) (b : BookD ns ds) : tbB m (.tuple ds) = true := by
  have hn : ∀ x, x ∈ ns → nmB (.str x) = true := fun x hx => by
    rw [← b.names] at hx
    obtain ⟨r, mr, rfl⟩ := List.mem_map.mp hx
    obtain ⟨y, k, rfl, hw, hy, _⟩ := b.rows r mr
    have hy8 : y.length ≤ 8 := hy.2
    show nmB (.str y) = true
    exact wr_name hw (by omega)
  have hlen : ds.length = ns.length := by rw [← b.names, List.length_map]
  refine tb_of (by have := b.few; omega) (fun r mr => ?_) ?_
  · obtain ⟨y, k, rfl, hw, hy, t, g⟩ := b.rows r mr
    obtain ⟨f1, f2, f3, f4⟩ := kt_facts hn t (m := m) (by omega)
    refine ⟨y, k, rfl, wr_name hw (by have := hy.2; omega), ?_, ?_⟩
    · have e : (2 : Nat) ^ 5 = 32 := by decide
      unfold knB kdB
      rw [f1, decide_eq_true (by omega), decide_eq_true (by omega)]
      show ((ms m k).2.2.all fun x => (lookB (bkOf (.tuple ds)) x).isSome) = true
      refine List.all_eq_true.mpr fun x hx => look_some ?_
      rw [bk_names, b.names]
      exact f4 x hx
    · unfold ruB
      rw [hw]
      rfl
  · have u := b.up
    rw [← b.names, List.pairwise_map] at u
    exact u
end Toy
set_option Elab.async false
set_option linter.all false
set_option maxRecDepth 100000
set_option maxHeartbeats 4000000
namespace Toy
open PySem L2 PyProof.Rows
abbrev sHole : Stmt := top 69
def noTick (y : Str) : Bool := !decide (39 ∈ y.cps.toList)
/-- a hole of a book's names as written, or the thing -/
def HoIn (ns : List Str) : Ho → Prop
  | .th => True
  | .nm y => y ∈ ns ∧ noTick y = true
def spHl (K : PySem.W.Frag) : Sp := fun vs H Q _ => ∃ (wl : Addr) (G : Hp) (v : V) (ds : List PyData), vs = [.ref wl, v] ∧ Stt wl G H ∧ Dq K G v (.tuple ds) ∧ RowsP ds ∧ ds.length ≤ 1000 ∧ (∀ r ∈ ds, PyData.strOk (rowN r) = true) ∧
  ∀ (u : V) (H' G' : Hp) (h : Ho), Gr wl G H G' H' → Dq K G' u (hoD h) → HoIn (ds.map rowN) h → Q u H'
theorem filt_emp {f : Str → Bool} (l : List Str) : ((l.filter f).map PyData.str).isEmpty = true ↔ l.filter f = [] := by
  rw [List.isEmpty_iff, List.map_eq_nil_iff]
section
variable {P : Program} {w : World} {K : PySem.W.Frag} {mg : Str → Option Value} {base : Heap}
theorem scHl : FnScope ["well", "book", "names", "name", "kind"] ["well", "book"] (defScope sHole) := ⟨rfl, rfl, rfl, by decide +kernel, rfl, by decide +kernel, by decide +kernel⟩
theorem ok_hole {f gD gP : Addr} {fd dD dP : FuncData} (F : Fun K "_law_hole" "_law_hole" sHole f fd) (D : Gv P w K mg base 1 "_law_draw" gD dD ["well", "many"] spDraw) (PT' : Gv P w K mg base 2 "_law_pick" gP dP ["well", "some"] (spPick K)) (PL : FnOk P w K mg base CX0 2 gP dP ["well", "some"] (spPickL K)) :
    FnOk P w K mg base CX0 3 f fd ["well", "book"] (spHl K) := by
  refine F.ok scHl (fun vs H Q E h => ?_) (fun cdv A outer s H vs Q E hr h => ?_)
  · obtain ⟨wl, G, v, ds, rfl, _⟩ := h
    rfl
  obtain ⟨wl, G, v, ds, rfl, st, hd, hrP, hz, hst, q⟩ := h
  have hr1 : Room 1 (A.deeper _) := hr.mono (by omega)
  refine ⟨_, pss_cons (ps_setLc (i := 2) (own := [("name", 3), ("kind", 4)]) (g := gTup K 2 (gCons (gName 3) (gCons (gName 4) gNil))) rfl scHl.nd rfl rfl (sw_true rfl rfl rfl (by decide +kernel)) (pi_tup (pv 1)) (blkOk_by (own := [("name", 3), ("kind", 4)]) (N := ["well", "book", "names", "name", "kind"]) (sc := defScope sHole) (by decide +kernel))
        (fun _ _ _ _ _ => pg_tup rfl (pgs_cons (pg_name (i := 3) scHl.nd rfl (.inl rfl)) (pgs_cons (pg_name (i := 4) scHl.nd rfl (.inl rfl)) pgs_nil))) (fun _ _ _ _ _ => pts_one (pt_cmpR op_notIn_sign pe_str (pv 3) (by rfl))) (fun _ _ _ _ _ => pv 3))
    (pss_cons (ps_if (PW.pt (pw_or (pt_cmpR (op_eqD hr.units) (pv 2) (pe_lst pa_nil) (nomark _)) (pw_or1 (pt_cmpR op_lt (pe_call D.ok hr1 rfl D.m D.k D.b .nil pass0 (pa_cons (pv 0) (pa_cons pe_int pa_nil))) pe_int (nomark _))))) (pss_one (ps_ret (pe_tupN (pa_cons pe_str pa_nil)))) pss_nil)
    (pss_one (ps_ret (pe_tupN (pa_cons pe_str (pa_cons (pe_call PL hr rfl PT'.m PT'.k PT'.b .nil pass0 (pa_cons (pv 0) (pa_cons (pv 2) pa_nil))) pa_nil)))))), ?_⟩
  have z3 : ∀ {k : Nat}, k ≤ 20 → k ≤ sizeLine := fun h => Nat.le_trans h (by decide)
  obtain ⟨a, xs, rfl, hx, hA⟩ := dq_tuple hd
  have hl := hA.len
  refine ⟨_, rfl, a, rfl, ⟨_, st.sub.seqT hx⟩, fun L nL => ?_⟩
  refine lc_it (walk_tup (xs := xs)) (fun i H2 => Same H H2 ∧ H2 L = some (.lst ((((ds.take i).map rowN).filter noTick).map V.str))) ⟨same_new nL _, upd_same⟩ (fun i H2 _ z => (st.sub.trans z.1).seqT hx) ?_ ?_
  · rintro i y H2 _ hi ⟨s2, hL⟩ ⟨rfl, hy⟩
    obtain ⟨e, he, hde⟩ := dqAll_at _ _ _ hA hy
    obtain ⟨y', k', rfl⟩ := hrP e (List.mem_of_getElem? he)
    obtain ⟨ad, ws, rfl, hw, hB⟩ := dq_tuple hde
    obtain ⟨x0, rs, rfl, g0, hB⟩ := dqAll_cons hB
    obtain ⟨x1, rs, rfl, g1, hB⟩ := dqAll_cons hB
    obtain rfl := dqAll_nil hB
    cases g0
    have tk : (((ds.take (i + 1)).map rowN).filter noTick).map V.str = (((ds.take i).map rowN).filter noTick).map V.str ++ (if noTick y' = true then [V.str y'] else []) := by
      rw [List.take_add_one, he, List.map_append, List.filter_append, List.map_append]
      congr 1
      show (List.filter noTick [y']).map _ = _
      by_cases hs : noTick y' = true
      · rw [if_pos hs, List.filter_cons_of_pos hs]
        rfl
      · rw [if_neg hs, List.filter_cons_of_neg hs]
        rfl
    refine ⟨ad, _, rfl, (st.sub.trans s2).seqT hw, rfl, _, _, rfl, _, _, rfl, rfl, rfl, ?_⟩
    refine ⟨_, rfl, 39, y', quo_one, rfl, _, rfl, ?_⟩
    refine ite2 (fun g => ?_) (fun g => ?_)
    · refine ⟨_, rfl, _, hL, ?_, fun b o z => by rw [upd_ne (ne_of_none z nL)]; exact s2 _ _ z, ?_⟩
      · rw [List.length_map]
        have h1 := List.length_filter_le noTick ((ds.take i).map rowN)
        rw [List.length_map] at h1
        exact Nat.lt_of_le_of_lt (Nat.le_trans h1 (Nat.le_trans (List.length_take_le' _ _) hz)) (by decide)
      · rw [upd_same, tk, if_pos (show noTick y' = true from g)]
    · exact ⟨s2, by rw [tk, if_neg (show ¬ noTick y' = true from g), List.append_nil]; exact hL⟩
  · rintro H2 ⟨s2, hL⟩
    rw [hl, List.take_length] at hL
    have g2 := Gr.same st s2
    have st2 := g2.stt st
    have nlw : L ≠ wl := fun z => by
      rw [z] at nL
      exact well_ne st.well nL
    have hmem : ∀ y ∈ (ds.map rowN).filter noTick, y ∈ ds.map rowN ∧ noTick y = true := fun y m => List.mem_filter.mp m
    have hlen : ((ds.map rowN).filter noTick).length ≤ 1000 := by
      have h1 := List.length_filter_le noTick (ds.map rowN)
      rw [List.length_map] at h1
      omega
    have hok : ∀ y ∈ (ds.map rowN).filter noTick, PyData.strOk y = true := fun y m => by
      obtain ⟨r, mr, rfl⟩ := List.mem_map.mp (hmem y m).1
      exact hst r mr
    refine ⟨_, rfl, by show 0 ≤ sizeLine; exact Nat.zero_le _, fun E5 h5 => ?_⟩
    have s5 := same_new h5 (.lst [])
    have g5 := Gr.same st2 s5
    have g25 := g2.trans g5
    have st5 := g5.stt st2
    have hL5 : upd H2 E5 (.lst []) L = _ := s5 _ _ hL
    refine ⟨_, _, .lst (SqL.of hL5) (dp_strD _), .lst (SqL.of upd_same) .nil, strD_shaped _ hok, rfl, _, rfl, ?_⟩
    rw [eqv_nil]
    have thing : ∀ (H7 : Hp), Gr wl G H G H7 → [V.str "thing"].length ≤ sizeLine ∧ ∀ p ob, H7 p = none → ob.dict = none → Q (.ref p) (upd H7 p (.frz ob (.tup [.str "thing"]))) := fun H7 g7 =>
      ⟨z3 (by show 1 ≤ 20; decide), fun p ob hp hob => by
        obtain ⟨g8, D8⟩ := Gr.tup (K := K) (vs := [.str "thing"]) (ds := [.str "thing"]) (g7.stt st) hp hob (.cons (.str _) .nil)
        exact q _ _ _ .th (g7.trans g8) D8 trivial⟩
    refine ite2 (fun _ => thing _ g25) (fun gne => ?_)
    have hne : 1 ≤ ((ds.map rowN).filter noTick).length := by
      cases e : (ds.map rowN).filter noTick with
      | nil => exact absurd ((filt_emp _).mpr e) gne
      | cons a b => simp
    refine ⟨_, rfl, wl, 5, rfl, by decide, by decide, st5.well, fun dr H6 b0 b1 w6 e6 => ?_⟩
    have g6 := g25.trans (Gr.stay st5 w6 e6)
    have st6 := g6.stt st
    have hL6 : H6 L = some (.lst (((ds.map rowN).filter noTick).map V.str)) := e6 _ _ nlw hL5
    refine ⟨_, _, rfl, rfl, _, rfl, ?_⟩
    refine ite2 (fun _ => thing _ g6) (fun _ => ?_)
    refine ⟨_, rfl, _, rfl, wl, L, _, rfl, w6, SqL.of hL6, nlw, by rw [List.length_map]; exact hne, by rw [List.length_map]; omega, fun v H7 hv w7 e7 => ⟨z3 (by show 2 ≤ 20; decide), fun p ob hp hob => ?_⟩⟩
    obtain ⟨y, my, rfl⟩ := strs_of hv
    have g7 := g6.trans (Gr.stay st6 w7 e7)
    obtain ⟨g8, D8⟩ := Gr.tup (K := K) (vs := [.str "name", .str y]) (ds := [.str "name", .str y]) (g7.stt st) hp hob (.cons (.str _) (.cons (.str _) .nil))
    exact q _ _ _ (.nm y) (g7.trans g8) D8 (hmem y my)
end
end Toy
set_option Elab.async false
set_option linter.all false
set_option maxRecDepth 100000
set_option maxHeartbeats 1000000
namespace Toy
open PySem L2 PyProof.Rows
/-! ### a kind by a hole: form, names -/
theorem ms_row (m : Nat) (w : Str) (a b : PyData) : ms (m + 1) (.tuple [.str w, a, b]) = two (ms m a) (ms m b) := rfl
theorem ms_fuel : ∀ {n : Nat} {d : PyData} {m : Nat}, fB n d = true → n ≤ m → ms m d = ms n d
  | 0, _, _, h, _ => nomatch h
  | n + 1, d, m, h, le => by
    obtain ⟨m, rfl⟩ : ∃ k, m = k + 1 := ⟨m - 1, by omega⟩
    rcases fB_cases h with ⟨w, rfl, _⟩ | ⟨w, x, rfl, _, _⟩ | ⟨n', w, a, b, en, rfl, _, ha, hb⟩
    · rfl
    · rfl
    · have en' : n = n' := by omega
      subst en'
      rw [ms_row, ms_row, ms_fuel ha (by omega), ms_fuel hb (by omega)]
theorem fB_fuel {n m : Nat} {d : PyData} (h : fB n d = true) (le : n ≤ m) : fB m d = true := by
  have : ∀ {n : Nat} {d : PyData} {m : Nat}, fB n d = true → n ≤ m → fB m d = true := by
    intro n
    induction n with
    | zero => intro d m h; cases h
    | succ n ih =>
      intro d m h le
      obtain ⟨m, rfl⟩ : ∃ k, m = k + 1 := ⟨m - 1, by omega⟩
      rcases fB_cases h with ⟨w, rfl, hw⟩ | ⟨w, x, rfl, hw, hx⟩ | ⟨n', w, a, b, en, rfl, hw, ha, hb⟩
      · rw [fB_one]; exact hw
      · rw [fB_nam, hw, hx]; rfl
      · have en' : n = n' := by omega
        subst en'
        rw [fB_two, hw, ih ha (by omega), ih hb (by omega)]
        rfl
  exact this h le
/-- a name that the hole brings by itself -/
def hoOwn : Ho → Str → Prop
  | .th, _ => False
  | .nm y, z => z = calD y (.nm y)
def okN (h : Ho) (ns : List Str) (z : Str) : Prop := z ∈ ns ∨ (∃ x ∈ ns, z = calD x h) ∨ hoOwn h z
theorem okN.sub {h : Ho} {ns ns' : List Str} {z : Str} (o : okN h ns z) (s : ∀ x ∈ ns, x ∈ ns') : okN h ns' z := by
  rcases o with o | ⟨x, hx, e⟩ | o
  · exact .inl (s _ o)
  · exact .inr (.inl ⟨x, s _ hx, e⟩)
  · exact .inr (.inr o)
theorem hol_names {h : Ho} {m : Nat} {z : Str} (hm : 2 ≤ m) (hz : z ∈ (ms m (holD h)).2.2) : hoOwn h z := by
  obtain ⟨m, rfl⟩ : ∃ k, m = k + 2 := ⟨m - 2, by omega⟩
  cases h with
  | th =>
    have e : (ms (m + 2) (holD .th)).2.2 = [] := rfl
    rw [e] at hz
    cases hz
  | nm y =>
    have e : (ms (m + 2) (holD (.nm y))).2.2 = [calD y (.nm y)] := rfl
    rw [e] at hz
    exact List.mem_singleton.mp hz
theorem hol_form {h : Ho} {m : Nat} (hm : 2 ≤ m) (ho : ∀ z, hoOwn h z → nmB (.str z) = true) : fB m (holD h) = true := by
  obtain ⟨m, rfl⟩ : ∃ k, m = k + 2 := ⟨m - 2, by omega⟩
  cases h with
  | th =>
    show fB (m + 2) (.tuple [.str "unit"]) = true
    rw [fB_one]
    decide +kernel
  | nm y =>
    show fB (m + 1 + 1) (.tuple [.str "either", .tuple [.str "unit"], .tuple [.str "name", .str (calD y (.nm y))]]) = true
    rw [fB_two, fB_one, fB_nam, ho _ rfl]
    decide +kernel
theorem kmd_names {h : Ho} : ∀ {n : Nat} {d : PyData} {m : Nat} {z : Str}, fB n d = true → 2 * n ≤ m → z ∈ (ms m (kmd n d h)).2.2 → okN h (ms n d).2.2 z
  | 0, _, _, _, f, _, _ => nomatch f
  | n + 1, d, m, z, f, le, hz => by
    by_cases e : PyData.eqv d (hoD h) = true
    · rw [kmd_hol _ _ _ e] at hz
      exact .inr (.inr (hol_names (by omega) hz))
    · rcases fB_cases f with ⟨w, rfl, hw⟩ | ⟨w, x, rfl, hw, hx⟩ | ⟨n', w, a, b, en, rfl, hw, ha, hb⟩
      · rw [kmd_one _ _ _ e] at hz
        obtain ⟨m, rfl⟩ : ∃ k, m = k + 1 := ⟨m - 1, by omega⟩
        have e1 : (ms (m + 1) (.tuple [.str "none"])).2.2 = [] := rfl
        rw [e1] at hz
        cases hz
      · rw [kmd_nam _ _ _ _ e] at hz
        obtain ⟨m, rfl⟩ : ∃ k, m = k + 1 := ⟨m - 1, by omega⟩
        have e1 : (ms (m + 1) (.tuple [.str "name", .str (calD x h)])).2.2 = [calD x h] := rfl
        rw [e1] at hz
        exact .inr (.inl ⟨x, List.mem_singleton.mpr rfl, List.mem_singleton.mp hz⟩)
      · have en' : n = n' := by omega
        subst en'
        have sa : ∀ x ∈ (ms n a).2.2, x ∈ (ms (n + 1) (.tuple [.str w, a, b])).2.2 := fun x hx => by rw [ms_row]; exact List.mem_append_left _ hx
        have sb : ∀ x ∈ (ms n b).2.2, x ∈ (ms (n + 1) (.tuple [.str w, a, b])).2.2 := fun x hx => by rw [ms_row]; exact List.mem_append_right _ hx
        rw [kmd_row _ _ _ _ _ e] at hz
        by_cases q : wE w = true
        · rw [if_pos q] at hz
          obtain ⟨m, rfl⟩ : ∃ k, m = k + 1 := ⟨m - 1, by omega⟩
          rw [ms_row] at hz
          rcases List.mem_append.mp (show z ∈ (ms m (kmd n a h)).2.2 ++ (ms m (kmd n b h)).2.2 from hz) with z1 | z1
          · exact (kmd_names ha (by omega) z1).sub sa
          · exact (kmd_names hb (by omega) z1).sub sb
        · rw [if_neg q] at hz
          obtain ⟨m, rfl⟩ : ∃ k, m = k + 2 := ⟨m - 2, by omega⟩
          rw [ms_row, ms_row, ms_row] at hz
          rcases List.mem_append.mp (show z ∈ ((ms m (kmd n a h)).2.2 ++ (ms m b).2.2) ++ ((ms m a).2.2 ++ (ms m (kmd n b h)).2.2) from hz) with z1 | z1
          · rcases List.mem_append.mp z1 with z2 | z2
            · exact (kmd_names ha (by omega) z2).sub sa
            · rw [ms_fuel hb (by omega)] at z2
              exact .inl (sb _ z2)
          · rcases List.mem_append.mp z1 with z2 | z2
            · rw [ms_fuel ha (by omega)] at z2
              exact .inl (sa _ z2)
            · exact (kmd_names hb (by omega) z2).sub sb
theorem kmd_form {h : Ho} (ho : ∀ z, hoOwn h z → nmB (.str z) = true) : ∀ {n : Nat} {d : PyData}, fB n d = true → (∀ x ∈ (ms n d).2.2, nmB (.str (calD x h)) = true) → fB (2 * n) (kmd n d h) = true
  | 0, _, f, _ => nomatch f
  | n + 1, d, f, hn => by
    have e2 : 2 * (n + 1) = 2 * n + 1 + 1 := by omega
    by_cases e : PyData.eqv d (hoD h) = true
    · rw [kmd_hol _ _ _ e]
      exact hol_form (by omega) ho
    · rcases fB_cases f with ⟨w, rfl, hw⟩ | ⟨w, x, rfl, hw, hx⟩ | ⟨n', w, a, b, en, rfl, hw, ha, hb⟩
      · rw [kmd_one _ _ _ e, e2, fB_one]
        decide +kernel
      · rw [kmd_nam _ _ _ _ e, e2, fB_nam, hn x (List.mem_singleton.mpr rfl)]
        decide +kernel
      · have en' : n = n' := by omega
        subst en'
        have fa := kmd_form ho ha (fun x hx => hn x (by rw [ms_row]; exact List.mem_append_left _ hx))
        have fb := kmd_form ho hb (fun x hx => hn x (by rw [ms_row]; exact List.mem_append_right _ hx))
        have wp : w2 "pair" = true := by decide +kernel
        have we : w2 "either" = true := by decide +kernel
        rw [kmd_row _ _ _ _ _ e, e2]
        by_cases q : wE w = true
        · rw [if_pos q, fB_two, we, fB_fuel fa (by omega), fB_fuel fb (by omega)]
          rfl
        · rw [if_neg q, fB_two, fB_two, fB_two, we, wp, fa, fb, fB_fuel ha (by omega), fB_fuel hb (by omega)]
          rfl
end Toy
set_option Elab.async false
set_option linter.all false
set_option maxRecDepth 100000
set_option maxHeartbeats 1000000
namespace Toy
open PySem L2 PyProof.Rows
/-! ### parts of a kind by one hole, by two -/
/-- parts of the kind by any hole, at most -/
def bF : Nat → PyData → Nat
  | 0, _ => 3
  | n + 1, d => match d with
    | .tuple [w, a, b] => (if wE (nmX w) = true then 1 else 3 + (ms n a).2.1 + (ms n b).2.1) + bF n a + bF n b
    | _ => 3
/-- by any two, one behind the other -/
def cF : Nat → PyData → Nat
  | 0, _ => 7
  | n + 1, d => match d with
    | .tuple [w, a, b] => (if wE (nmX w) = true then 1 else 7 + 2 * bF n a + 2 * bF n b + (ms n a).2.1 + (ms n b).2.1) + cF n a + cF n b
    | _ => 7
theorem bF_row (n : Nat) (w : Str) (a b : PyData) : bF (n + 1) (.tuple [.str w, a, b]) = (if wE w = true then 1 else 3 + (ms n a).2.1 + (ms n b).2.1) + bF n a + bF n b := rfl
theorem cF_row (n : Nat) (w : Str) (a b : PyData) : cF (n + 1) (.tuple [.str w, a, b]) = (if wE w = true then 1 else 7 + 2 * bF n a + 2 * bF n b + (ms n a).2.1 + (ms n b).2.1) + cF n a + cF n b := rfl
theorem bF_fuel : ∀ {n : Nat} {d : PyData} {m : Nat}, fB n d = true → n ≤ m → bF m d = bF n d
  | 0, _, _, h, _ => nomatch h
  | n + 1, d, m, h, le => by
    obtain ⟨m, rfl⟩ : ∃ k, m = k + 1 := ⟨m - 1, by omega⟩
    rcases fB_cases h with ⟨w, rfl, _⟩ | ⟨w, x, rfl, _, _⟩ | ⟨n', w, a, b, en, rfl, _, ha, hb⟩
    · rfl
    · rfl
    · have en' : n = n' := by omega
      subst en'
      rw [bF_row, bF_row, bF_fuel ha (by omega), bF_fuel hb (by omega), ms_fuel ha (by omega : n ≤ m), ms_fuel hb (by omega : n ≤ m)]
theorem two_parts (x y : Nat × Nat × List Str) : (two x y).2.1 = x.2.1 + y.2.1 + 1 := rfl
theorem wE_e : wE "either" = true := by decide +kernel
theorem wE_p : wE "pair" = false := by decide +kernel
theorem bF_leaf (n : Nat) (w : Str) (d : PyData) : bF n (.tuple [.str w, d]) = 3 := by cases n <;> rfl
theorem bF_one (n : Nat) (w : Str) : bF n (.tuple [.str w]) = 3 := by cases n <;> rfl
theorem p_hol {h : Ho} {m : Nat} (hm : 2 ≤ m) : (ms m (holD h)).2.1 ≤ 3 := by
  obtain ⟨m, rfl⟩ : ∃ k, m = k + 2 := ⟨m - 2, by omega⟩
  cases h with
  | th =>
    have e : (ms (m + 2) (holD .th)).2.1 = 1 := rfl
    omega
  | nm y =>
    have e : (ms (m + 2) (holD (.nm y))).2.1 = 3 := rfl
    omega
theorem b_hol {h : Ho} {m : Nat} (hm : 2 ≤ m) : bF m (holD h) ≤ 7 := by
  obtain ⟨m, rfl⟩ : ∃ k, m = k + 1 := ⟨m - 1, by omega⟩
  cases h with
  | th =>
    have e : bF (m + 1) (holD .th) = 3 := rfl
    omega
  | nm y =>
    show bF (m + 1) (.tuple [.str "either", .tuple [.str "unit"], .tuple [.str "name", .str (calD y (.nm y))]]) ≤ 7
    rw [bF_row, if_pos wE_e, bF_one, bF_leaf]
    omega
theorem b_three : ∀ (n : Nat) (d : PyData), 3 ≤ bF n d
  | 0, _ => Nat.le_refl 3
  | n + 1, d => by
    unfold bF
    split
    · rename_i w a b
      have := b_three n a
      have := b_three n b
      omega
    · exact Nat.le_refl 3
theorem c_seven : ∀ (n : Nat) (d : PyData), 7 ≤ cF n d
  | 0, _ => Nat.le_refl 7
  | n + 1, d => by
    unfold cF
    split
    · rename_i w a b
      have := c_seven n a
      have := c_seven n b
      omega
    · exact Nat.le_refl 7
theorem p_one (m : Nat) (w : Str) : (ms m (.tuple [.str w])).2.1 = 1 := by cases m <;> rfl
theorem p_leaf (m : Nat) (w : Str) (d : PyData) : (ms m (.tuple [.str w, d])).2.1 = 1 := by cases m <;> rfl
theorem b_le {h : Ho} : ∀ {n : Nat} {d : PyData} {m : Nat}, fB n d = true → 2 * n ≤ m → (ms m (kmd n d h)).2.1 ≤ bF n d
  | 0, _, _, f, _ => nomatch f
  | n + 1, d, m, f, le => by
    have b3 := b_three (n + 1) d
    by_cases e : PyData.eqv d (hoD h) = true
    · rw [kmd_hol _ _ _ e]
      have := p_hol (h := h) (m := m) (by omega)
      omega
    · rcases fB_cases f with ⟨w, rfl, hw⟩ | ⟨w, x, rfl, hw, hx⟩ | ⟨n', w, a, b, en, rfl, hw, ha, hb⟩
      · rw [kmd_one _ _ _ e, p_one]
        omega
      · rw [kmd_nam _ _ _ _ e, p_leaf]
        omega
      · have en' : n = n' := by omega
        subst en'
        rw [kmd_row _ _ _ _ _ e, bF_row]
        by_cases q : wE w = true
        · rw [if_pos q, if_pos q]
          obtain ⟨m, rfl⟩ : ∃ k, m = k + 1 := ⟨m - 1, by omega⟩
          have ia := b_le (h := h) ha (m := m) (by omega)
          have ib := b_le (h := h) hb (m := m) (by omega)
          rw [ms_row, two_parts]
          omega
        · rw [if_neg q, if_neg q]
          obtain ⟨m, rfl⟩ : ∃ k, m = k + 2 := ⟨m - 2, by omega⟩
          have ia := b_le (h := h) ha (m := m) (by omega)
          have ib := b_le (h := h) hb (m := m) (by omega)
          rw [ms_row, ms_row, ms_row, two_parts, two_parts, two_parts, ms_fuel hb (by omega : n ≤ m), ms_fuel ha (by omega : n ≤ m)]
          omega
theorem c_le {h : Ho} : ∀ {n : Nat} {d : PyData} {m : Nat}, fB n d = true → 2 * n ≤ m → bF m (kmd n d h) ≤ cF n d
  | 0, _, _, f, _ => nomatch f
  | n + 1, d, m, f, le => by
    have c7 := c_seven (n + 1) d
    by_cases e : PyData.eqv d (hoD h) = true
    · rw [kmd_hol _ _ _ e]
      have := b_hol (h := h) (m := m) (by omega)
      omega
    · rcases fB_cases f with ⟨w, rfl, hw⟩ | ⟨w, x, rfl, hw, hx⟩ | ⟨n', w, a, b, en, rfl, hw, ha, hb⟩
      · rw [kmd_one _ _ _ e, bF_one]
        omega
      · rw [kmd_nam _ _ _ _ e, bF_leaf]
        omega
      · have en' : n = n' := by omega
        subst en'
        rw [kmd_row _ _ _ _ _ e, cF_row]
        by_cases q : wE w = true
        · rw [if_pos q, if_pos q]
          obtain ⟨m, rfl⟩ : ∃ k, m = k + 1 := ⟨m - 1, by omega⟩
          have ia := c_le (h := h) ha (m := m) (by omega)
          have ib := c_le (h := h) hb (m := m) (by omega)
          rw [bF_row, if_pos wE_e]
          omega
        · rw [if_neg q, if_neg q]
          obtain ⟨m, rfl⟩ : ∃ k, m = k + 2 := ⟨m - 2, by omega⟩
          have ia := c_le (h := h) ha (m := m) (by omega)
          have ib := c_le (h := h) hb (m := m) (by omega)
          have pa := b_le (h := h) ha (m := m) (by omega)
          have pb := b_le (h := h) hb (m := m) (by omega)
          have np : ¬ wE "pair" = true := by rw [wE_p]; exact Bool.false_ne_true
          rw [bF_row, if_pos wE_e, bF_row, bF_row, if_neg np, if_neg np, bF_fuel hb (by omega : n ≤ m), bF_fuel ha (by omega : n ≤ m), ms_fuel hb (by omega : n ≤ m), ms_fuel ha (by omega : n ≤ m)]
          omega
/-- the greatest numbers by depth -/
def nums : Nat → Nat × Nat × Nat
  | 0 => (0, 0, 0)
  | n + 1 => (1 + 2 * (nums n).1, 3 + 2 * (nums n).2.1 + 2 * (nums n).1, 7 + 2 * (nums n).2.2 + 4 * (nums n).2.1 + 2 * (nums n).1)
theorem kt_nums {ok : Str → Prop} : ∀ {n : Nat} {d : PyData}, KT ok n d → ∀ {m : Nat}, n ≤ m → (ms m d).2.1 ≤ (nums n).1 ∧ bF m d ≤ (nums n).2.1 ∧ cF m d ≤ (nums n).2.2 := by
  intro n d t
  induction t with
  | @one n w hw =>
    intro m hm
    obtain ⟨m, rfl⟩ : ∃ k, m = k + 1 := ⟨m - 1, by omega⟩
    have c : cF (m + 1) (.tuple [.str w]) = 7 := rfl
    rw [p_one, bF_one, c]
    show 1 ≤ 1 + 2 * (nums n).1 ∧ 3 ≤ 3 + 2 * (nums n).2.1 + 2 * (nums n).1 ∧ 7 ≤ 7 + 2 * (nums n).2.2 + 4 * (nums n).2.1 + 2 * (nums n).1
    omega
  | @nam n x hx =>
    intro m hm
    obtain ⟨m, rfl⟩ : ∃ k, m = k + 1 := ⟨m - 1, by omega⟩
    have c : cF (m + 1) (.tuple [.str "name", .str x]) = 7 := rfl
    rw [p_leaf, bF_leaf, c]
    show 1 ≤ 1 + 2 * (nums n).1 ∧ 3 ≤ 3 + 2 * (nums n).2.1 + 2 * (nums n).1 ∧ 7 ≤ 7 + 2 * (nums n).2.2 + 4 * (nums n).2.1 + 2 * (nums n).1
    omega
  | @two n w a b hw _ _ ia ib =>
    intro m hm
    obtain ⟨m, rfl⟩ : ∃ k, m = k + 1 := ⟨m - 1, by omega⟩
    obtain ⟨a1, a2, a3⟩ := ia (m := m) (by omega)
    obtain ⟨b1, b2, b3⟩ := ib (m := m) (by omega)
    rw [ms_row, two_parts, bF_row, cF_row]
    show _ ≤ 1 + 2 * (nums n).1 ∧ _ ≤ 3 + 2 * (nums n).2.1 + 2 * (nums n).1 ∧ _ ≤ 7 + 2 * (nums n).2.2 + 4 * (nums n).2.1 + 2 * (nums n).1
    by_cases q : wE w = true
    · rw [if_pos q, if_pos q]
      omega
    · rw [if_neg q, if_neg q]
      omega
theorem nums_five : nums 5 = (31, 191, 1151) := by decide
end Toy
set_option Elab.async false
set_option linter.all false
set_option maxRecDepth 100000
set_option maxHeartbeats 1000000
namespace Toy
open PySem L2 PyProof.Rows
/-! ### names by a hole -/
theorem str_ext {a b : Str} (h : a.cps.toList = b.cps.toList) : a = b := by
  have e : a.cps = b.cps := Array.toList_inj.mp h
  cases a
  cases b
  simp only at e
  rw [e]
theorem calD_cps (y : Str) (h : Ho) : (calD y h).cps.toList = y.cps.toList ++ 39 :: (hoT h).cps.toList := by
  unfold calD
  rw [app_cps, app_cps, quo_cps]
  simp
theorem calD_rp {y : Str} {h : Ho} (ht : 39 ∉ (hoT h).cps.toList) : Txt.rpartition (calD y h) quo = (y, quo, hoT h) := by
  rw [rp_some (calD_cps y h) ht]
theorem calD_stem {y : Str} {h : Ho} (ht : 39 ∉ (hoT h).cps.toList) : stemOf (calD y h) = y ∧ lastOf (calD y h) = hoT h := by
  unfold stemOf lastOf
  rw [calD_rp ht]
  exact ⟨rfl, rfl⟩
theorem calD_wr (y : Str) (h : Ho) : wrB (calD y h) = false := by
  cases e : wrB (calD y h) with
  | false => rfl
  | true => exact absurd (show 39 ∈ (calD y h).cps.toList by rw [calD_cps]; simp) (wr_tick e)
/-- the thing, or a name as written -/
def HoW : Ho → Prop
  | .th => True
  | .nm y => wrB y = true ∧ y.length ≤ 8 ∧ PyData.strOk y = true
theorem how_tick {h : Ho} (k : HoW h) : 39 ∉ (hoT h).cps.toList := by
  cases h with
  | th => decide +kernel
  | nm y => exact wr_tick k.1
theorem how_of {h : Ho} (k : HoW h) : hoOf (hoT h) = h := by
  cases h with
  | th => exact if_pos (decide_eq_true rfl)
  | nm y =>
    refine if_neg ?_
    intro z
    have e := emp_tick (q := y) (of_decide_eq_true z)
    have kw := k.1
    unfold wrB at kw
    rw [e] at kw
    cases kw
theorem how_len {h : Ho} (k : HoW h) : (hoT h).length ≤ 8 := by
  cases h with
  | th => decide +kernel
  | nm y => exact k.2.1
theorem quo_all : quo.cps.all (· < 256) = true := by decide +kernel
theorem calD_name {y : Str} {h : Ho} (hy : nmB (.str y) = true) (k : HoW h) (hl : y.length ≤ 50) : nmB (.str (calD y h)) = true := by
  have h' : (decide (y.length ≤ 60) && namL (Txt.split y quo)) = true := hy
  rw [Bool.and_eq_true] at h'
  have j := StrLaws.join_split y quo
  have len : (calD y h).length ≤ 60 := by
    have e : (calD y h).cps.toList.length = (y.cps.toList ++ 39 :: (hoT h).cps.toList).length := by rw [calD_cps]
    have e1 : (calD y h).cps.toList.length = (calD y h).length := Array.length_toList
    have e2 : y.cps.toList.length = y.length := Array.length_toList
    have e3 : (hoT h).cps.toList.length = (hoT h).length := Array.length_toList
    have := how_len k
    rw [List.length_append, List.length_cons] at e
    omega
  show (decide ((calD y h).length ≤ 60) && namL (Txt.split (calD y h) quo)) = true
  rw [decide_eq_true len, Bool.true_and]
  cases e : Txt.split y quo with
  | nil => exact absurd e (split_ne y quo)
  | cons p r =>
    rw [e] at j h'
    have nl : (wrB p && r.all fun q => decide (V.str q = V.str "") || wrB q) = true := h'.2
    rw [Bool.and_eq_true] at nl
    have last : (decide (V.str (hoT h) = V.str "") || wrB (hoT h)) = true := by
      cases h with
      | th => decide +kernel
      | nm z =>
        have kw : wrB z = true := k.1
        show (decide (V.str z = V.str "") || wrB z) = true
        rw [kw, Bool.or_true]
    have ej : calD y h = Str.join quo ((p :: r) ++ [hoT h]) := str_ext (by rw [join_last quo (hoT h) (p :: r) (fun z => nomatch z), j, calD_cps, quo_cps]; simp)
    have es : Txt.split (calD y h) quo = (p :: r) ++ [hoT h] := by
      rw [ej, ← TL.join_eq]
      refine TL.split_join (y := quo) (s := 39) (S := []) (parts := (p :: r) ++ [hoT h]) (by decide +kernel) quo_all (fun z => nomatch z) fun q hq => ?_
      rcases List.mem_append.mp hq with m | m
      · rcases List.mem_cons.mp m with rfl | m
        · exact wr_tick nl.1
        · exact piece_tick (List.all_eq_true.mp nl.2 q m)
      · rw [List.mem_singleton.mp m]
        exact how_tick k
    rw [es]
    show (wrB p && (r ++ [hoT h]).all fun q => decide (V.str q = V.str "") || wrB q) = true
    rw [nl.1, List.all_append, nl.2, Bool.true_and, Bool.true_and]
    show ((decide (V.str (hoT h) = V.str "") || wrB (hoT h)) && true) = true
    rw [last]
    rfl
end Toy
set_option Elab.async false
set_option linter.all false
set_option maxRecDepth 100000
set_option maxHeartbeats 1000000
namespace Toy
open PySem L2 PyProof.Rows
/-! ### books by holes: levels -/
theorem kmd_fuel {h : Ho} : ∀ {n : Nat} {d : PyData} {m : Nat}, fB n d = true → n ≤ m → kmd m d h = kmd n d h
  | 0, _, _, f, _ => nomatch f
  | n + 1, d, m, f, le => by
    obtain ⟨m, rfl⟩ : ∃ k, m = k + 1 := ⟨m - 1, by omega⟩
    by_cases e : PyData.eqv d (hoD h) = true
    · rw [kmd_hol _ _ _ e, kmd_hol _ _ _ e]
    · rcases fB_cases f with ⟨w, rfl, _⟩ | ⟨w, x, rfl, _, _⟩ | ⟨n', w, a, b, en, rfl, _, ha, hb⟩
      · rw [kmd_one _ _ _ e, kmd_one _ _ _ e]
      · rw [kmd_nam _ _ _ _ e, kmd_nam _ _ _ _ e]
      · have en' : n = n' := by omega
        subst en'
        rw [kmd_row _ _ _ _ _ e, kmd_row _ _ _ _ _ e, kmd_fuel ha (by omega), kmd_fuel hb (by omega)]
theorem fB_deep : ∀ {n : Nat} {d : PyData}, fB n d = true → (ms n d).1 ≤ n
  | 0, _, f => nomatch f
  | n + 1, d, f => by
    rcases fB_cases f with ⟨w, rfl, _⟩ | ⟨w, x, rfl, _, _⟩ | ⟨n', w, a, b, en, rfl, _, ha, hb⟩
    · show 1 ≤ n + 1
      omega
    · show 1 ≤ n + 1
      omega
    · have en' : n = n' := by omega
      subst en'
      have x := fB_deep ha
      have y := fB_deep hb
      rw [ms_row]
      show max _ _ + 1 ≤ _
      omega
theorem fB_nm : ∀ {n : Nat} {d : PyData}, fB n d = true → ∀ x ∈ (ms n d).2.2, nmB (.str x) = true
  | 0, _, f, _, _ => nomatch f
  | n + 1, d, f, z, hz => by
    rcases fB_cases f with ⟨w, rfl, _⟩ | ⟨w, x, rfl, _, hx⟩ | ⟨n', w, a, b, en, rfl, _, ha, hb⟩
    · cases (show z ∈ ([] : List Str) from hz)
    · rw [List.mem_singleton.mp (show z ∈ [x] from hz)]
      exact hx
    · have en' : n = n' := by omega
      subst en'
      rw [ms_row] at hz
      rcases List.mem_append.mp (show z ∈ (ms n a).2.2 ++ (ms n b).2.2 from hz) with m | m
      · exact fB_nm ha z m
      · exact fB_nm hb z m
theorem nm_len {x : Str} (h : nmB (.str x) = true) : x.length ≤ 60 := by
  have h' : (decide (x.length ≤ 60) && namL (Txt.split x quo)) = true := h
  rw [Bool.and_eq_true, decide_eq_true_eq] at h'
  exact h'.1
theorem txt_str {x : Str} {n : Nat} (h : txtOk x n) (hn : n ≤ 2000) : txtB (.str x) = true := by
  show (PyData.strOk x && decide (x.length ≤ 2000)) = true
  rw [h.1, decide_eq_true (by have := h.2; omega)]
  rfl
theorem how_ok {h : Ho} (k : HoW h) : hoOk h := by
  cases h with
  | th => exact ⟨by decide +kernel, by decide +kernel⟩
  | nm y => exact ⟨k.2.2, by have := k.2.1; show y.length ≤ 60; omega⟩
theorem hol_txt {h : Ho} (k : HoW h) : txtB (holD h) = true := by
  cases h with
  | th => decide +kernel
  | nm y =>
    have t := txt_str (calD_ok (x := y) (n := 60) (how_ok k) (how_ok k)) (by omega)
    show (txtB (.str "either") && ((txtB (.str "unit") && true) && ((txtB (.str "name") && (txtB (.str (calD y (.nm y))) && true)) && true))) = true
    rw [t]
    decide +kernel
theorem kmd_txt {h : Ho} (k : HoW h) : ∀ {n : Nat} {d : PyData}, fB n d = true → txtB d = true → txtB (kmd n d h) = true
  | 0, _, f, _ => nomatch f
  | n + 1, d, f, t => by
    by_cases e : PyData.eqv d (hoD h) = true
    · rw [kmd_hol _ _ _ e]
      exact hol_txt k
    · rcases fB_cases f with ⟨w, rfl, hw⟩ | ⟨w, x, rfl, hw, hx⟩ | ⟨n', w, a, b, en, rfl, hw, ha, hb⟩
      · rw [kmd_one _ _ _ e]
        decide +kernel
      · rw [kmd_nam _ _ _ _ e]
        have tt : (txtB (.str w) && (txtB (.str x) && true)) = true := t
        simp only [Bool.and_eq_true] at tt
        have tx : (PyData.strOk x && decide (x.length ≤ 2000)) = true := tt.2.1
        rw [Bool.and_eq_true] at tx
        have t2 := txt_str (calD_ok (x := x) (n := 60) ⟨tx.1, nm_len hx⟩ (how_ok k)) (by omega)
        show (txtB (.str "name") && (txtB (.str (calD x h)) && true)) = true
        rw [t2]
        decide +kernel
      · have en' : n = n' := by omega
        subst en'
        have tt : (txtB (.str w) && (txtB a && (txtB b && true))) = true := t
        simp only [Bool.and_eq_true] at tt
        have ka := kmd_txt k ha tt.2.1
        have kb := kmd_txt k hb tt.2.2.1
        rw [kmd_row _ _ _ _ _ e]
        by_cases q : wE w = true
        · rw [if_pos q]
          show (txtB (.str "either") && (txtB (kmd n a h) && (txtB (kmd n b h) && true))) = true
          rw [ka, kb]
          decide +kernel
        · rw [if_neg q]
          show (txtB (.str "either") && ((txtB (.str "pair") && (txtB (kmd n a h) && (txtB b && true))) && ((txtB (.str "pair") && (txtB a && (txtB (kmd n b h) && true))) && true))) = true
          rw [ka, kb, tt.2.1, tt.2.2.1]
          decide +kernel
/-- so far by holes: form and parts -/
def Lvl : Nat → PyData → Prop
  | 0, k => fB 5 k = true ∧ (ms 5 k).2.1 ≤ 31 ∧ bF 5 k ≤ 191 ∧ cF 5 k ≤ 1151
  | 1, k => fB 10 k = true ∧ (ms 10 k).2.1 ≤ 191 ∧ bF 10 k ≤ 1151
  | _ + 2, k => fB 20 k = true ∧ (ms 20 k).2.1 ≤ 1151
theorem Lvl.form {j : Nat} {k : PyData} (l : Lvl j k) : ∃ n, n ≤ 20 ∧ fB n k = true ∧ (ms n k).2.1 ≤ 1151 := by
  rcases j with _ | _ | j
  · exact ⟨5, by decide, l.1, by have := l.2.1; omega⟩
  · exact ⟨10, by decide, l.1, by have := l.2.1; omega⟩
  · exact ⟨20, by decide, l.1, l.2⟩
theorem Lvl.kd {j m : Nat} {k : PyData} (l : Lvl j k) (hm : 30 ≤ m) : kdB m k = true := by
  obtain ⟨n, hn, f, p⟩ := l.form
  have d := fB_deep f
  unfold kdB
  rw [fB_fuel f (by omega : n ≤ m), ms_fuel f (by omega : n ≤ m), decide_eq_true (by omega), decide_eq_true (by omega)]
  rfl
theorem Lvl.up {j : Nat} {k : PyData} (l : Lvl j k) (hj : j ≤ 1) : Lvl (j + 1) k := by
  rcases j with _ | _ | j
  · obtain ⟨f, a, b, c⟩ := l
    exact ⟨fB_fuel f (by decide), by rw [ms_fuel f (by decide)]; omega, by rw [bF_fuel f (by decide)]; omega⟩
  · obtain ⟨f, a, b⟩ := l
    exact ⟨fB_fuel f (by decide), by rw [ms_fuel f (by decide)]; omega⟩
  · omega
theorem Lvl.by {j : Nat} {k : PyData} {h : Ho} (l : Lvl j k) (hj : j ≤ 1) (ho : ∀ z, hoOwn h z → nmB (.str z) = true) (hn : ∀ {n : Nat}, fB n k = true → ∀ x ∈ (ms n k).2.2, nmB (.str (calD x h)) = true) : Lvl (j + 1) (kmd 30 k h) := by
  rcases j with _ | _ | j
  · obtain ⟨f, a, b, c⟩ := l
    rw [kmd_fuel f (by decide)]
    have x := b_le (h := h) f (m := 10) (by decide)
    have y := c_le (h := h) f (m := 10) (by decide)
    exact ⟨kmd_form ho f (hn f), by omega, by omega⟩
  · obtain ⟨f, a, b⟩ := l
    rw [kmd_fuel f (by decide)]
    have x := b_le (h := h) f (m := 20) (by decide)
    exact ⟨kmd_form ho f (hn f), by omega⟩
  · omega
theorem kt_lvl {ok : Str → Prop} {k : PyData} (ho : ∀ x, ok x → nmB (.str x) = true) (t : KT ok 5 k) : Lvl 0 k := by
  obtain ⟨f, _, _, _⟩ := kt_facts ho t (m := 5) (by decide)
  obtain ⟨a, b, c⟩ := kt_nums t (m := 5) (by decide)
  rw [nums_five] at a b c
  exact ⟨f, a, b, c⟩
end Toy
set_option Elab.async false
set_option linter.all false
set_option maxRecDepth 100000
set_option maxHeartbeats 1000000
namespace Toy
open PySem L2 PyProof.Rows
/-! ### a book by a hole is one -/
structure BookL (j : Nat) (ds : List PyData) : Prop where
  rows : ∀ r ∈ ds, ∃ y k, r = .tuple [.str y, k] ∧ txtOk y (8 + 9 * j) ∧ Lvl j k ∧ txtB k = true
  up : ds.Pairwise fun r s => lessS (rowN r) (rowN s) = true
  tb : ∀ m, 30 ≤ m → tbB m (.tuple ds) = true
  ne : ds ≠ []
  few : ds.length ≤ 4 * 2 ^ j
structure ByH (ds ds' : List PyData) (h : Ho) : Prop where
  rows : ∀ r ∈ ds', ∃ x v, r = .tuple [.str x, v] ∧ (lookB (bkOf (.tuple ds)) x = some v ∨ ∃ y k, lookB (bkOf (.tuple ds)) y = some k ∧ x = calD y h ∧ v = kmd 30 k h)
  old : ∀ y k, lookB (bkOf (.tuple ds)) y = some k → lookB (bkOf (.tuple ds')) y = some k
  new : ∀ y k, lookB (bkOf (.tuple ds)) y = some k → lookB (bkOf (.tuple ds')) (calD y h) = some (kmd 30 k h)
  up : ds'.Pairwise fun r s => lessS (rowN r) (rowN s) = true
  ne : ds' ≠ []
  few : ds'.length ≤ 2 * ds.length
theorem tb_rows {m : Nat} {ds : List PyData} (h : tbB m (.tuple ds) = true) : ∀ r ∈ ds, ∃ y k, r = .tuple [.str y, k] ∧ nmB (.str y) = true ∧ knB m (bkOf (.tuple ds)) k = true ∧ ruB m (bkOf (.tuple ds)) y k = true := by
  unfold tbB at h
  rw [Bool.and_eq_true, Bool.and_eq_true, List.all_eq_true, List.all_eq_true] at h
  obtain ⟨h1, h2, h3⟩ := h
  have h1' : (decide (ds.length ≤ 80) && upB m "" ds) = true := h1
  rw [Bool.and_eq_true] at h1'
  obtain ⟨u, _⟩ := up_rows h1'.2
  intro r mr
  obtain ⟨y, k, rfl, a, _, _⟩ := u r mr
  have mp : (y, k) ∈ bkOf (.tuple ds) := List.mem_map.mpr ⟨_, mr, rfl⟩
  exact ⟨y, k, rfl, a, h2 _ mp, h3 _ mp⟩
theorem kh_mono {m : Nat} (h1 : 1 ≤ m) {bk bk' : List (Str × PyData)} (s : ∀ x, (lookB bk x).isSome = true → (lookB bk' x).isSome = true) {d : PyData} (h : khB m bk d = true) : khB m bk' d = true := by
  unfold khB knB at h ⊢
  rw [Bool.and_eq_true, Bool.and_eq_true, List.all_eq_true] at h
  rw [Bool.and_eq_true, Bool.and_eq_true, List.all_eq_true]
  exact ⟨⟨h.1.1, fun x hx => s x (h.1.2 x hx)⟩, h.2⟩
theorem kn_mono {m : Nat} {bk bk' : List (Str × PyData)} (s : ∀ x, (lookB bk x).isSome = true → (lookB bk' x).isSome = true) {d : PyData} (h : knB m bk d = true) : knB m bk' d = true := by
  unfold knB at h ⊢
  rw [Bool.and_eq_true, List.all_eq_true] at h ⊢
  exact ⟨h.1, fun x hx => s x (h.2 x hx)⟩
theorem names_fuel {n m : Nat} {k : PyData} (f : fB n k = true) (g : fB m k = true) : ms m k = ms n k := by
  rcases Nat.le_total n m with z | z
  · exact ms_fuel f z
  · exact (ms_fuel g z).symm
theorem closure {j : Nat} {ds ds' : List PyData} {h : Ho} (b : BookL j ds) (hj : j ≤ 1) (k : HoW h) (hin : ∀ y0, h = .nm y0 → (lookB (bkOf (.tuple ds)) y0).isSome = true) (a : ByH ds ds' h) : BookL (j + 1) ds' := by
  -- what is known of a name of the book
  have info : ∀ m, 30 ≤ m → ∀ y c, lookB (bkOf (.tuple ds)) y = some c → txtOk y (8 + 9 * j) ∧ nmB (.str y) = true ∧ Lvl j c ∧ txtB c = true ∧ knB m (bkOf (.tuple ds)) c = true ∧ ruB m (bkOf (.tuple ds)) y c = true := fun m hm y c l => by
    obtain ⟨p, mp, e1, e2⟩ := look_mem l
    obtain ⟨r, mr, rfl⟩ := List.mem_map.mp mp
    obtain ⟨y1, k1, rfl, t1, l1, x1⟩ := b.rows r mr
    obtain ⟨y2, k2, e, n2, kn2, ru2⟩ := tb_rows (b.tb m hm) _ mr
    injection e with e
    injection e with e3 e4
    injection e3 with e3
    injection e4 with e4
    subst e3 e4
    have e1' : y1 = y := e1
    have e2' : k1 = c := e2
    subst e1' e2'
    exact ⟨t1, n2, l1, x1, kn2, ru2⟩
  have some_of : ∀ y, (lookB (bkOf (.tuple ds)) y).isSome = true → ∃ c, lookB (bkOf (.tuple ds)) y = some c := fun y z => Option.isSome_iff_exists.mp z
  have mono : ∀ x, (lookB (bkOf (.tuple ds)) x).isSome = true → (lookB (bkOf (.tuple ds')) x).isSome = true := fun x hx => by
    obtain ⟨c, hc⟩ := some_of x hx
    rw [a.old x c hc]
    rfl
  have cal : ∀ y c, lookB (bkOf (.tuple ds)) y = some c → nmB (.str (calD y h)) = true := fun y c l => by
    obtain ⟨t, n, _⟩ := info 30 (by decide) y c l
    exact calD_name n k (by have := t.2; omega)
  have own : ∀ z, hoOwn h z → ∃ y0 c, h = .nm y0 ∧ lookB (bkOf (.tuple ds)) y0 = some c ∧ z = calD y0 h := fun z hz => by
    cases h with
    | th => exact hz.elim
    | nm y0 =>
      obtain ⟨c, hc⟩ := some_of y0 (hin y0 rfl)
      exact ⟨y0, c, rfl, hc, hz⟩
  have knm : ∀ {c : PyData}, knB 30 (bkOf (.tuple ds)) c = true → ∀ {n : Nat}, fB n c = true → ∀ x ∈ (ms n c).2.2, ∃ c', lookB (bkOf (.tuple ds)) x = some c' := fun {c} hc {n} f x hx => by
    have g := kn_form hc
    unfold knB at hc
    rw [Bool.and_eq_true, List.all_eq_true] at hc
    rw [names_fuel g f] at hx
    exact some_of x (hc.2 x hx)
  have byl : ∀ y c, lookB (bkOf (.tuple ds)) y = some c → Lvl (j + 1) (kmd 30 c h) := fun y c l => by
    obtain ⟨t, n, lv, tx, kn, ru⟩ := info 30 (by decide) y c l
    refine lv.by hj (fun z hz => ?_) (fun {n} f x hx => ?_)
    · obtain ⟨y0, c0, _, l0, rfl⟩ := own z hz
      exact cal y0 c0 l0
    · obtain ⟨c', l'⟩ := knm kn f x hx
      exact cal x c' l'
  refine ⟨fun r mr => ?_, a.up, fun m hm => ?_, a.ne, ?_⟩
  · obtain ⟨x, v, rfl, o | ⟨y, c, l, rfl, rfl⟩⟩ := a.rows r mr
    · obtain ⟨t, n, lv, tx, kn, ru⟩ := info 30 (by decide) x v o
      exact ⟨x, v, rfl, txt_up t (by omega), lv.up hj, tx⟩
    · obtain ⟨t, n, lv, tx, kn, ru⟩ := info 30 (by decide) y c l
      refine ⟨_, _, rfl, ?_, byl y c l, ?_⟩
      · have h8 : txtOk (hoT h) 8 := ⟨(how_ok k).1, how_len k⟩
        exact txt_up (txt_app (txt_app t quo_ok) h8) (by omega)
      · obtain ⟨n', hn', f', _⟩ := lv.form
        rw [kmd_fuel f' (by omega)]
        exact kmd_txt k f' tx
  · refine tb_of ?_ (fun r mr => ?_) a.up
    · have := a.few
      have := b.few
      have : 2 ^ j ≤ 2 ^ 1 := Nat.pow_le_pow_right (by decide) hj
      omega
    · obtain ⟨x, v, rfl, o | ⟨y, c, l, rfl, rfl⟩⟩ := a.rows r mr
      · obtain ⟨t, n, lv, tx, kn, ru⟩ := info m hm x v o
        refine ⟨x, v, rfl, n, kn_mono mono kn, ?_⟩
        unfold ruB at ru ⊢
        cases hw : wrB x with
        | true => rfl
        | false =>
          rw [hw, Bool.false_or] at ru
          rw [Bool.false_or]
          cases hl : lookB (bkOf (.tuple ds)) (stemOf x) with
          | none => rw [hl] at ru; cases ru
          | some c =>
            rw [hl] at ru
            rw [a.old _ _ hl]
            have ru' : (khB m (bkOf (.tuple ds)) (hoD (hoOf (lastOf x))) && PyData.eqv v (kmd 30 c (hoOf (lastOf x)))) = true := ru
            rw [Bool.and_eq_true] at ru'
            show (khB m (bkOf (.tuple ds')) (hoD (hoOf (lastOf x))) && PyData.eqv v (kmd 30 c (hoOf (lastOf x)))) = true
            rw [kh_mono (by omega) mono ru'.1, ru'.2]
            rfl
      · obtain ⟨t, n, lv, tx, kn, ru⟩ := info m hm y c l
        obtain ⟨_, _, _, _, kn30, _⟩ := info 30 (by decide) y c l
        have lv' := byl y c l
        refine ⟨_, _, rfl, cal y c l, ?_, ?_⟩
        · unfold knB
          rw [lv'.kd hm, Bool.true_and, List.all_eq_true]
          intro z hz
          obtain ⟨n', hn', f', _⟩ : ∃ n', n' ≤ 10 ∧ fB n' c = true ∧ True := by
            rcases j with _ | _ | j
            · exact ⟨5, by decide, lv.1, trivial⟩
            · exact ⟨10, by decide, lv.1, trivial⟩
            · omega
          rw [kmd_fuel f' (by omega)] at hz
          rcases kmd_names f' (by omega) hz with o | ⟨x', hx', rfl⟩ | o
          · obtain ⟨c', l'⟩ := knm kn30 f' z o
            rw [a.old z c' l']
            rfl
          · obtain ⟨c', l'⟩ := knm kn30 f' x' hx'
            rw [a.new x' c' l']
            rfl
          · obtain ⟨y0, c0, _, l0, rfl⟩ := own z o
            rw [a.new y0 c0 l0]
            rfl
        · obtain ⟨es, el⟩ := calD_stem (y := y) (how_tick k)
          unfold ruB
          rw [calD_wr, Bool.false_or, es, el, how_of k, a.old y c l]
          obtain ⟨n', hn', f', _⟩ := lv.form
          have st := kmd_st 30 c h (fB_fuel f' (by omega)) tx (how_ok k)
          show (khB m (bkOf (.tuple ds')) (hoD h) && PyData.eqv (kmd 30 c h) (kmd 30 c h)) = true
          rw [(eqv_st _ _ st st).mpr rfl, Bool.and_true]
          cases h with
          | th => exact kh_thing (by omega) _
          | nm y0 => rw [kh_name (by omega) _ k.1 (by have := k.2.1; omega)]; exact mono y0 (hin y0 rfl)
  · have := a.few
    have := b.few
    have e : 2 ^ (j + 1) = 2 ^ j * 2 := Nat.pow_succ ..
    omega
end Toy
set_option Elab.async false
set_option linter.all false
set_option maxRecDepth 100000
set_option maxHeartbeats 1000000
namespace Toy
open PySem L2 PyProof.Rows
theorem bookD_L {ns : List Str} {ds : List PyData} (b : BookD ns ds) : BookL 0 ds := by
  have hn : ∀ x, x ∈ ns → nmB (.str x) = true := fun x hx => by
    rw [← b.names] at hx
    obtain ⟨r, mr, rfl⟩ := List.mem_map.mp hx
    obtain ⟨y, k, rfl, hw, hy, _⟩ := b.rows r mr
    have hy8 : y.length ≤ 8 := hy.2
    show nmB (.str y) = true
    exact wr_name hw (by omega)
  have hlen : ds.length = ns.length := by rw [← b.names, List.length_map]
  refine ⟨fun r mr => ?_, ?_, fun m hm => bookD_ok hm b, fun z => ?_, ?_⟩
  · obtain ⟨y, k, rfl, hw, hy, t, g⟩ := b.rows r mr
    exact ⟨y, k, rfl, hy, kt_lvl hn t, gdB_txt (by decide) k g.g⟩
  · have u := b.up
    rw [← b.names, List.pairwise_map] at u
    exact u
  · subst z
    exact b.ne b.names.symm
  · have := b.few
    show ds.length ≤ 4 * 1
    omega
/-- what may stand at a name of the book by the hole -/
def ByP (ds : List PyData) (h : Ho) (x : Str) (v : PyData) : Prop := lookB (bkOf (.tuple ds)) x = some v ∨ ∃ y k, lookB (bkOf (.tuple ds)) y = some k ∧ x = calD y h ∧ v = kmd 30 k h
theorem calD_inj {y y' : Str} {h : Ho} (k : HoW h) (e : calD y h = calD y' h) : y = y' := by
  have a := (calD_stem (y := y) (how_tick k)).1
  have b := (calD_stem (y := y') (how_tick k)).1
  rw [← a, ← b, e]
/-- a name by the hole that the book has stands for the kind by the hole -/
theorem by_old {j : Nat} {ds : List PyData} {h : Ho} (b : BookL j ds) (k : HoW h) {y : Str} {v c : PyData} (hx : lookB (bkOf (.tuple ds)) (calD y h) = some v) (hy : lookB (bkOf (.tuple ds)) y = some c) : v = kmd 30 c h := by
  have row : ∀ {x : Str} {w : PyData}, lookB (bkOf (.tuple ds)) x = some w → Lvl j w ∧ txtB w = true ∧ ruB 30 (bkOf (.tuple ds)) x w = true := fun {x w} l => by
    obtain ⟨p, mp, e1, e2⟩ := look_mem l
    obtain ⟨r, mr, rfl⟩ := List.mem_map.mp mp
    obtain ⟨y1, k1, rfl, t1, l1, x1⟩ := b.rows r mr
    obtain ⟨y2, k2, e, n2, kn2, ru2⟩ := tb_rows (b.tb 30 (by decide)) _ mr
    injection e with e
    injection e with e3 e4
    injection e3 with e3
    injection e4 with e4
    subst e3 e4
    have e1' : y1 = x := e1
    have e2' : k1 = w := e2
    subst e1' e2'
    exact ⟨l1, x1, ru2⟩
  obtain ⟨lv, tv, ru⟩ := row hx
  obtain ⟨lc, tc, _⟩ := row hy
  obtain ⟨es, el⟩ := calD_stem (y := y) (how_tick k)
  unfold ruB at ru
  rw [calD_wr, Bool.false_or, es, el, how_of k, hy] at ru
  have ru' : (khB 30 (bkOf (.tuple ds)) (hoD h) && PyData.eqv v (kmd 30 c h)) = true := ru
  rw [Bool.and_eq_true] at ru'
  obtain ⟨n1, h1, f1, _⟩ := lv.form
  obtain ⟨n2, h2, f2, _⟩ := lc.form
  exact (eqv_st _ _ (fB_st _ _ f1 tv) (kmd_st 30 c h (fB_fuel f2 (by omega)) tc (how_ok k))).mp ru'.2
theorem byP_one {j : Nat} {ds : List PyData} {h : Ho} (b : BookL j ds) (k : HoW h) {x : Str} {v w : PyData} (p : ByP ds h x v) (q : ByP ds h x w) : v = w := by
  rcases p with p | ⟨y, c, ly, rfl, rfl⟩
  · rcases q with q | ⟨y, c, ly, rfl, rfl⟩
    · rw [p] at q
      exact Option.some.inj q
    · exact by_old b k p ly
  · rcases q with q | ⟨y', c', ly', e, rfl⟩
    · exact (by_old b k q ly).symm
    · have ey := calD_inj k e
      subst ey
      rw [ly] at ly'
      cases ly'
      rfl
/-! ### the law's dict: the book's names and those by the hole -/
def putB (l : List (Str × PyData)) (x : Str) (v : PyData) : List (Str × PyData) := if (l.any fun p => decide (p.1 = x)) = true then l.map (fun p => if p.1 = x then (p.1, v) else p) else l ++ [(x, v)]
theorem look_cons (p : Str × PyData) (l : List (Str × PyData)) (z : Str) : lookB (p :: l) z = if p.1 = z then some p.2 else lookB l z := by
  unfold lookB
  rw [List.find?_cons]
  by_cases e : p.1 = z
  · rw [decide_eq_true e, if_pos e]
    rfl
  · rw [decide_eq_false e, if_neg e]
theorem look_map (x : Str) (v : PyData) (z : Str) : ∀ l : List (Str × PyData), lookB (l.map fun p => if p.1 = x then (p.1, v) else p) z = if z = x then (if (l.any fun p => decide (p.1 = x)) = true then some v else none) else lookB l z
  | [] => by
    show none = _
    by_cases e : z = x
    · rw [if_pos e]
      rfl
    · rw [if_neg e]
      rfl
  | p :: l => by
    rw [List.map_cons, look_cons, look_map x v z l, look_cons, List.any_cons]
    by_cases e : p.1 = x
    · rw [if_pos e, decide_eq_true e, Bool.true_or, if_pos rfl]
      show (if p.1 = z then some v else _) = _
      by_cases ez : z = x
      · rw [if_pos ez, if_pos (by rw [e, ez]), if_pos ez]
      · have n : ¬ p.1 = z := fun q => ez (by rw [← q, e])
        rw [if_neg ez, if_neg n, if_neg n, if_neg ez]
    · rw [if_neg e, decide_eq_false e, Bool.false_or]
      by_cases ez : z = x
      · have n : ¬ p.1 = z := fun q => e (by rw [q, ez])
        rw [if_pos ez, if_neg n, if_pos ez]
      · rw [if_neg ez, if_neg ez]
theorem look_snoc (x : Str) (v : PyData) (z : Str) : ∀ l : List (Str × PyData), (l.any fun p => decide (p.1 = x)) = false → lookB (l ++ [(x, v)]) z = if z = x then some v else lookB l z
  | [], _ => by
    rw [List.nil_append, look_cons]
    by_cases e : z = x
    · rw [if_pos e, if_pos e.symm]
    · rw [if_neg e, if_neg (fun q => e q.symm)]
  | p :: l, h => by
    rw [List.any_cons, Bool.or_eq_false_iff] at h
    have np : ¬ p.1 = x := of_decide_eq_false h.1
    rw [List.cons_append, look_cons, look_snoc x v z l h.2, look_cons]
    by_cases e : z = x
    · have n : ¬ p.1 = z := fun q => np (by rw [q, e])
      rw [if_neg n, if_pos e, if_pos e]
    · rw [if_neg e, if_neg e]
theorem look_put (l : List (Str × PyData)) (x : Str) (v : PyData) (z : Str) : lookB (putB l x v) z = if z = x then some v else lookB l z := by
  unfold putB
  cases h : l.any fun p => decide (p.1 = x) with
  | true => rw [if_pos rfl, look_map, h, if_pos rfl]
  | false => rw [if_neg Bool.false_ne_true, look_snoc _ _ _ _ h]
def foundB (h : Ho) : List (Str × PyData) → List (Str × PyData) → List (Str × PyData)
  | [], acc => acc
  | (y, k) :: r, acc => foundB h r (putB (putB acc y k) (calD y h) (kmd 30 k h))
structure FInv (ds : List PyData) (h : Ho) (pre acc : List (Str × PyData)) : Prop where
  a : ∀ x v, lookB acc x = some v → ByP ds h x v
  b : ∀ p ∈ pre, lookB acc p.1 = some p.2 ∧ lookB acc (calD p.1 h) = some (kmd 30 p.2 h)
theorem put_keep {ds : List PyData} {h : Ho} {acc : List (Str × PyData)} (u : ∀ {x v w}, ByP ds h x v → ByP ds h x w → v = w) (a : ∀ x v, lookB acc x = some v → ByP ds h x v) {x : Str} {v : PyData} (p : ByP ds h x v) :
    (∀ z w, lookB (putB acc x v) z = some w → ByP ds h z w) ∧ (∀ z w, lookB acc z = some w → lookB (putB acc x v) z = some w) ∧ lookB (putB acc x v) x = some v := by
  refine ⟨fun z w hz => ?_, fun z w hz => ?_, by rw [look_put, if_pos rfl]⟩
  · rw [look_put] at hz
    by_cases e : z = x
    · rw [if_pos e] at hz
      cases hz
      rw [e]
      exact p
    · rw [if_neg e] at hz
      exact a z w hz
  · rw [look_put]
    by_cases e : z = x
    · subst e
      rw [if_pos rfl, u p (a z w hz)]
    · rw [if_neg e]
      exact hz
theorem found_inv {ds : List PyData} {h : Ho} (u : ∀ {x v w}, ByP ds h x v → ByP ds h x w → v = w) (dl : ∀ p ∈ bkOf (.tuple ds), lookB (bkOf (.tuple ds)) p.1 = some p.2) :
    ∀ (rest pre acc : List (Str × PyData)), FInv ds h pre acc → (∀ p ∈ rest, p ∈ bkOf (.tuple ds)) → FInv ds h (pre ++ rest) (foundB h rest acc)
  | [], pre, acc, i, _ => by rw [List.append_nil]; exact i
  | (y, k) :: rest, pre, acc, i, m => by
    have ly := dl _ (m _ List.mem_cons_self)
    obtain ⟨a1, k1, s1⟩ := put_keep u i.a (x := y) (v := k) (.inl ly)
    obtain ⟨a2, k2, s2⟩ := put_keep u a1 (x := calD y h) (v := kmd 30 k h) (.inr ⟨y, k, ly, rfl, rfl⟩)
    have i' : FInv ds h (pre ++ [(y, k)]) (putB (putB acc y k) (calD y h) (kmd 30 k h)) := ⟨a2, fun p mp => by
      rcases List.mem_append.mp mp with mp | mp
      · obtain ⟨b1, b2⟩ := i.b p mp
        exact ⟨k2 _ _ (k1 _ _ b1), k2 _ _ (k1 _ _ b2)⟩
      · rw [List.mem_singleton.mp mp]
        exact ⟨k2 _ _ s1, s2⟩⟩
    have := found_inv u dl rest (pre ++ [(y, k)]) _ i' fun p mp => m p (List.mem_cons_of_mem _ mp)
    rw [List.append_assoc] at this
    exact this
end Toy
set_option Elab.async false
set_option linter.all false
set_option maxRecDepth 100000
set_option maxHeartbeats 1000000
namespace Toy
open PySem L2 PyProof.Rows
/-! ### the dict beside what it holds -/
theorem foundB_snoc (h : Ho) (p : Str × PyData) : ∀ (l acc : List (Str × PyData)), foundB h (l ++ [p]) acc = putB (putB (foundB h l acc) p.1 p.2) (calD p.1 h) (kmd 30 p.2 h)
  | [], acc => rfl
  | (y, k) :: l, acc => foundB_snoc h p l _
theorem paired_any {K : PySem.W.Frag} {H : Hp} {x : Str} : ∀ {kvs : List (Key × V)} {l : List (Str × PyData)}, Paired (TabR K H) kvs l → (kvs.any fun kv => decide (kv.1 = Sum.inr x)) = l.any fun p => decide (p.1 = x)
  | _, _, .nil => rfl
  | _, _, .cons (a := kv) (b := p) r t => by
    rw [List.any_cons, List.any_cons, paired_any t]
    congr 1
    rw [r.1]
    by_cases e : p.1 = x
    · rw [decide_eq_true e, decide_eq_true (by rw [e])]
    · rw [decide_eq_false e, decide_eq_false (fun z => e (by injection z))]
theorem paired_map {K : PySem.W.Frag} {H : Hp} {x : Str} {v : V} {d : PyData} (D : Dq K H v d) : ∀ {kvs : List (Key × V)} {l : List (Str × PyData)}, Paired (TabR K H) kvs l →
    Paired (TabR K H) (kvs.map fun kv => if kv.1 = Sum.inr x then (kv.1, v) else kv) (l.map fun p => if p.1 = x then (p.1, d) else p)
  | _, _, .nil => .nil
  | _, _, .cons (a := kv) (b := p) r t => by
    refine .cons ?_ (paired_map D t)
    show TabR K H (if kv.1 = Sum.inr x then (kv.1, v) else kv) (if p.1 = x then (p.1, d) else p)
    by_cases e : p.1 = x
    · rw [if_pos e, if_pos (by rw [r.1, e])]
      exact ⟨r.1, D⟩
    · rw [if_neg e, if_neg (fun z => e (by rw [r.1] at z; injection z))]
      exact r
theorem paired_snoc {α β : Type} {R : α → β → Prop} {a : α} {b : β} (r : R a b) : ∀ {xs : List α} {ys : List β}, Paired R xs ys → Paired R (xs ++ [a]) (ys ++ [b])
  | _, _, .nil => .cons r .nil
  | _, _, .cons h t => .cons h (paired_snoc r t)
theorem paired_put {K : PySem.W.Frag} {H : Hp} {kvs : List (Key × V)} {l : List (Str × PyData)} {x : Str} {v : V} {d : PyData} (t : Paired (TabR K H) kvs l) (D : Dq K H v d) : Paired (TabR K H) (putK kvs (.inr x) v) (putB l x d) := by
  unfold putK putB
  rw [paired_any t]
  cases l.any fun p => decide (p.1 = x) with
  | true =>
    rw [if_pos rfl, if_pos rfl]
    exact paired_map D t
  | false =>
    rw [if_neg Bool.false_ne_true, if_neg Bool.false_ne_true]
    exact paired_snoc ⟨rfl, D⟩ t
theorem put_names (l : List (Str × PyData)) (x : Str) (v : PyData) : (putB l x v).map (·.1) = if (l.any fun p => decide (p.1 = x)) = true then l.map (·.1) else l.map (·.1) ++ [x] := by
  unfold putB
  cases l.any fun p => decide (p.1 = x) with
  | true =>
    rw [if_pos rfl, if_pos rfl, List.map_map]
    refine List.map_congr_left fun p _ => ?_
    show (if p.1 = x then (p.1, v) else p).1 = p.1
    by_cases e : p.1 = x
    · rw [if_pos e]
    · rw [if_neg e]
  | false =>
    rw [if_neg Bool.false_ne_true, if_neg Bool.false_ne_true, List.map_append]
    rfl
theorem put_nodup {l : List (Str × PyData)} (n : (l.map (·.1)).Nodup) (x : Str) (v : PyData) : ((putB l x v).map (·.1)).Nodup := by
  rw [put_names]
  cases h : l.any fun p => decide (p.1 = x) with
  | true =>
    rw [if_pos rfl]
    exact n
  | false =>
    rw [if_neg Bool.false_ne_true]
    refine List.nodup_append.mpr ⟨n, by simp, fun a ma b mb => ?_⟩
    rw [List.mem_singleton.mp mb]
    intro e
    obtain ⟨p, mp, rfl⟩ := List.mem_map.mp ma
    exact List.any_eq_false.mp h p mp (decide_eq_true e)
theorem put_len (l : List (Str × PyData)) (x : Str) (v : PyData) : (putB l x v).length ≤ l.length + 1 := by
  have e := congrArg List.length (put_names l x v)
  rw [List.length_map] at e
  rw [e]
  split
  · rw [List.length_map]
    omega
  · rw [List.length_append, List.length_map]
    simp
theorem found_facts (h : Ho) : ∀ (l acc : List (Str × PyData)), (acc.map (·.1)).Nodup → ((foundB h l acc).map (·.1)).Nodup ∧ (foundB h l acc).length ≤ acc.length + 2 * l.length
  | [], acc, n => ⟨n, by show acc.length ≤ _; omega⟩
  | (y, k) :: l, acc, n => by
    obtain ⟨a, b⟩ := found_facts h l _ (put_nodup (put_nodup n y k) (calD y h) (kmd 30 k h))
    refine ⟨a, Nat.le_trans b ?_⟩
    have x := put_len (putB acc y k) (calD y h) (kmd 30 k h)
    have z := put_len acc y k
    rw [List.length_cons]
    omega
theorem look_nodup : ∀ {l : List (Str × PyData)} {p : Str × PyData}, (l.map (·.1)).Nodup → p ∈ l → lookB l p.1 = some p.2
  | q :: l, p, n, m => by
    rw [List.map_cons, List.nodup_cons] at n
    rw [look_cons]
    rcases List.mem_cons.mp m with rfl | m
    · rw [if_pos rfl]
    · have ne : ¬ q.1 = p.1 := fun e => n.1 (by rw [e]; exact List.mem_map.mpr ⟨p, m, rfl⟩)
      rw [if_neg ne]
      exact look_nodup n.2 m
end Toy
set_option Elab.async false
set_option linter.all false
set_option maxRecDepth 100000
set_option maxHeartbeats 4000000
namespace Toy
open PySem L2 PyProof.Rows
abbrev sAllBy : Stmt := top 65
theorem rising_up : ∀ {l : List Str} {p : Str}, risingS p l = true → StrO.upS (p :: l)
  | [], p, _ => List.pairwise_cons.mpr ⟨fun _ h => (nomatch h), .nil⟩
  | x :: r, p, h => by
    have h' : (!PySem.Spec.ltCps x.cps.toList p.cps.toList && risingS x r) = true := h
    rw [Bool.and_eq_true, ltCps_eq] at h'
    have h1 : ¬ x.cps.toList < p.cps.toList := by simpa using h'.1
    have u := rising_up h'.2
    refine List.pairwise_cons.mpr ⟨fun y my => ?_, u⟩
    rcases List.mem_cons.mp my with rfl | my
    · exact h1
    · have h2 := (List.pairwise_cons.mp u).1 y my
      rw [List.not_lt] at h1 h2 ⊢
      exact List.le_trans h1 h2
theorem sorted_up : ∀ {l : List Str}, sortedS l = true → StrO.upS l
  | [], _ => .nil
  | x :: r, h => rising_up h
def rowF (fb : List (Str × PyData)) (x : Str) : PyData := .tuple [.str x, (lookB fb x).getD .none]
theorem paired_keys {K : PySem.W.Frag} {H : Hp} : ∀ {kvs : List (Key × V)} {l : List (Str × PyData)}, Paired (TabR K H) kvs l → kvs.map (·.1) = (l.map (·.1)).map Sum.inr
  | _, _, .nil => rfl
  | _, _, .cons r t => by
    rw [List.map_cons, List.map_cons, List.map_cons, paired_keys t, r.1]
def spAb (K : PySem.W.Frag) : Sp := fun vs H Q _ => ∃ (wl : Addr) (G : Hp) (v u : V) (ds : List PyData) (j : Nat) (h : Ho), vs = [v, u] ∧ Stt wl G H ∧ Dq K G v (.tuple ds) ∧ BookL j ds ∧ j ≤ 1 ∧ Dq K G u (hoD h) ∧ HoW h ∧ (∀ y0, h = .nm y0 → (lookB (bkOf (.tuple ds)) y0).isSome = true) ∧
  ∀ (v' : V) (H' G' : Hp) (ds' : List PyData), Gr wl G H G' H' → Dq K G' v' (.tuple ds') → BookL (j + 1) ds' → ByH ds ds' h → Q v' H'
section
variable {P : Program} {w : World} {K : PySem.W.Frag} {mg : Str → Option Value} {base : Heap}
theorem scAb : FnScope ["book", "hole", "found", "name", "kind"] ["book", "hole"] (defScope sAllBy) := ⟨rfl, rfl, rfl, by decide +kernel, rfl, by decide +kernel, by decide +kernel⟩
theorem ok_allby {f gC gM : Addr} {fd dC dM : FuncData} (F : Fun K "_law_all_by" "_law_all_by" sAllBy f fd) (TU : mg "tuple" = none) (SG : mg "sorted" = none) (CL : Gv P w K mg base 1 "_law_called" gC dC ["name", "hole"] (spCal K)) (MB : Gv P w K mg base 31 "_law_made_by" gM dM ["kind", "hole"] (spMb K 30)) : FnOk P w K mg base CX0 32 f fd ["book", "hole"] (spAb K) := by
  refine F.ok scAb (fun vs H Q E h => ?_) (fun cdv A outer s H vs Q E hr h => ?_)
  · obtain ⟨wl, G, v, u, ds, j, h, rfl, _⟩ := h
    rfl
  obtain ⟨wl, G, v, u, ds, j, h, rfl, st, hd, b, hj, hu, kw, hin, q⟩ := h
  have hr1 : Room 1 (A.deeper _) := hr.mono (by omega)
  have hu1 := Nat.lt_of_le_of_lt (Nat.add_le_add_left (by decide : 1 ≤ 64) _) hr.units
  refine ⟨_, pss_cons (ps_set (i := 2) scAb.nd rfl (.inr rfl) pe_dnewK)
    (pss_cons (ps_for PassesOwn.never rfl (pi_tup (pv 0)) (pg_tup rfl (pgs_cons (pg_name (i := 3) scAb.nd rfl (.inl rfl)) (pgs_cons (pg_name (i := 4) scAb.nd rfl (.inl rfl)) pgs_nil))) (pss_cons (ps_dput hu1 (pv 2) (pv 3) (pv 4) rfl)
    (pss_one (ps_dput hu1 (pv 2) (pe_call CL.ok hr1 rfl CL.m CL.k CL.b .nil pass0 (pa_cons (pv 3) (pa_cons (pv 1) pa_nil))) (pe_call MB.ok hr rfl MB.m MB.k MB.b .nil pass0 (pa_cons (pv 4) (pa_cons (pv 1) pa_nil))) rfl))))
    (pss_one (ps_ret (pe_callTy call_tupleN rfl TU (by decide +kernel) (pa_cons (pe_lc (own := [("name", 3)]) (g := gName 3) (tt := tYes) (te := tTupN (tCons (tVar 3) (tCons (tDGet (tVar 2) (tVar 3)) tNil))) rfl scAb.nd (pi_list (pe_callB (call_sortedD rfl) rfl SG (by decide +kernel) (pa_cons (pv 2) pa_nil))) (blkOk_by (own := [("name", 3)]) (N := ["book", "hole", "found", "name", "kind"]) (sc := defScope sAllBy) (by decide +kernel))
        (fun _ _ _ _ _ => pg_name (i := 3) scAb.nd rfl (.inl rfl)) (fun _ _ _ _ _ => pts_nil) (fun _ _ _ _ _ => pe_tupN (pa_cons (pv 3) (pa_cons (pe_dget hu1 (pv 2) (pv 3) (fun _ _ => rfl)) pa_nil)))) pa_nil))))), ?_⟩
  obtain ⟨a, xs, rfl, hx, hA⟩ := dq_tuple hd
  have hl := hA.len
  have hbl : (bkOf (.tuple ds)).length = ds.length := List.length_map ..
  have few : ds.length ≤ 8 := by
    have := b.few
    have : 2 ^ j ≤ 2 ^ 1 := Nat.pow_le_pow_right (by decide) hj
    omega
  have lens : ∀ n, (foundB h ((bkOf (.tuple ds)).take n) []).length ≤ 16 := fun n => by
    have z := (found_facts h ((bkOf (.tuple ds)).take n) [] .nil).2
    have t := List.length_take_le n (bkOf (.tuple ds))
    have t2 : ((bkOf (.tuple ds)).take n).length ≤ (bkOf (.tuple ds)).length := by rw [List.length_take]; omega
    rw [List.length_nil] at z
    omega
  have zs20 : ∀ {k : Nat}, k ≤ 20 → k < sizeLine := fun h => Nat.lt_of_le_of_lt h (by decide)
  refine fun dd hdd => ?_
  have g1 := Gr.same st (same_new hdd (.dK []))
  have ndw : dd ≠ wl := fun z => by
    rw [z] at hdd
    exact well_ne st.well hdd
  have gd : G dd = none := st.sub.free hdd
  have e1 : upd H dd (.dK []) dd = some (.dK []) := upd_same
  generalize upd H dd (.dK []) = H1 at g1 e1 ⊢
  refine ⟨_, rfl, a, rfl, ⟨_, g1.gh.seqT hx⟩, ?_⟩
  refine for_it (walk_tup (xs := xs)) (fun i σ H' => ∃ G' kvs c3 c4, σ = [some (.ref a), some u, some (.ref dd), c3, c4] ∧ Gr wl G H G' H' ∧ G' dd = none ∧ H' dd = some (.dK kvs) ∧ Paired (TabR K G') kvs (foundB h ((bkOf (.tuple ds)).take i) [])) ⟨G, [], none, none, rfl, g1, gd, e1, .nil⟩
    (fun i σ H' _ ⟨G', kvs, c3, c4, _, g, _⟩ => (g.gg.trans g.gh).seqT hx) ?_ ?_
  · rintro i y0 σ H4 H5 hi ⟨G5, kvs, c3, c4, rfl, g5, gf5, hd5, tp5⟩ ⟨rfl, hy⟩
    obtain ⟨e, he, hde⟩ := dqAll_at _ _ _ hA hy
    have me := List.mem_of_getElem? he
    obtain ⟨y, k, rfl, ty, lv, tx⟩ := b.rows e me
    have hb := bk_get he
    obtain ⟨ad, ws, rfl, hw, hB⟩ := dq_tuple hde
    obtain ⟨x0, rs, rfl, q0, hB⟩ := dqAll_cons hB
    obtain ⟨x1, rs, rfl, q1, hB⟩ := dqAll_cons hB
    obtain rfl := dqAll_nil hB
    cases q0
    have sG5 := g5.gg.trans g5.gh
    have len5 : kvs.length ≤ 16 := by rw [tp5.length]; exact lens i
    refine ⟨ad, _, rfl, sG5.seqT hw, rfl, _, _, rfl, _, _, rfl, rfl, ?_⟩
    refine ⟨_, rfl, _, rfl, _, rfl, dd, _, rfl, DPut.k (k := .inr y) hd5 (zs20 (by omega)), ?_⟩
    have D1 : Dq K G5 x1 k := Dq.mono g5.gg _ _ q1
    have tp6 := paired_put (x := y) tp5 D1
    have g6 := g5.ownL hdd gf5 ndw (.dK (putK kvs (.inr y) x1))
    have hd6 : upd H5 dd (.dK (putK kvs (.inr y) x1)) dd = some (.dK (putK kvs (.inr y) x1)) := upd_same
    generalize upd H5 dd (.dK (putK kvs (.inr y) x1)) = H6 at g6 hd6 ⊢
    have st6 := g6.stt st
    obtain ⟨n', hn', f', _⟩ := lv.form
    have kd := kd_down (lv.kd (m := 30) (by decide))
    have hu5 : Dq K G5 u (hoD h) := Dq.mono (g5.gg) _ _ hu
    refine ⟨_, rfl, _, rfl, G5, x1, u, k, h, rfl, g6.gh, D1, fB_fuel f' (by omega), tx, by omega, hu5, how_ok kw, fun v7 H7 G7 n7 D7 => ?_⟩
    refine ⟨_, rfl, _, rfl, _, rfl, y, u, h, rfl, Dq.mono (g6.gh.trans n7.hh) _ _ hu5, txt_up ty (by omega), ho_up (how_ok kw), dd, _, rfl, DPut.k (k := .inr (calD y h)) (n7.hh _ _ hd6) (zs20 ?_), ?_⟩
    · have z := length_putK kvs (.inr y) x1
      omega
    have g7 := g6.trans (n7.gr st6)
    have gf7 : G7 dd = none := n7.gn dd gf5 (by rw [hd6]; exact fun z => nomatch z)
    have tp7 := paired_put (x := calD y h) (paired_imp (fun kv p z => ⟨z.1, Dq.mono n7.gg _ _ z.2⟩) tp6) D7
    refine ⟨G7, _, _, _, rfl, g7.ownL hdd gf7 ndw _, gf7, upd_same, ?_⟩
    have ef : foundB h ((bkOf (.tuple ds)).take (i + 1)) [] = putB (putB (foundB h ((bkOf (.tuple ds)).take i) []) y k) (calD y h) (kmd 30 k h) := by
      rw [List.take_add_one, hb]
      exact foundB_snoc h (y, k) _ _
    rw [ef]
    exact tp7
  · rintro σ H5 ⟨G5, kvs, c3, c4, rfl, g5, gf5, hd5, tp5⟩
    rw [hl, ← hbl, List.take_length] at tp5
    have dist : Dist (bkOf (.tuple ds)) := by
      unfold Dist bkOf
      rw [List.pairwise_map]
      exact b.up.imp fun z => less_ne z
    have inv := found_inv (ds := ds) (h := h) (byP_one b kw) (fun p mp => look_of dist mp) (bkOf (.tuple ds)) [] [] ⟨(fun x v e => by cases e), (fun p mp => by cases mp)⟩ (fun p mp => mp)
    rw [List.nil_append] at inv
    have ff := found_facts h (bkOf (.tuple ds)) [] .nil
    have fl16 := ff.2
    rw [List.length_nil, hbl] at fl16
    generalize foundB h (bkOf (.tuple ds)) [] = fb at tp5 inv ff fl16
    refine ⟨_, rfl, dd, kvs, fb.map (·.1), rfl, .inl hd5, paired_keys tp5, by rw [List.length_map]; omega, fun ys p hp hs hn => ?_⟩
    have nd : ys.Nodup := hp.symm.nodup ff.1
    have lys : ys.length = fb.length := by rw [hp.length_eq, List.length_map]
    have up := up_less (sorted_up hs) nd
    have st5 := g5.stt st
    have g6 := g5.trans (Gr.same st5 (same_new hn (.lst (ys.map V.str))))
    have hp6 : upd H5 p (.lst (ys.map V.str)) p = some (.lst (ys.map V.str)) := upd_same
    have hd6 : upd H5 p (.lst (ys.map V.str)) dd = some (.dK kvs) := same_new hn _ _ _ hd5
    generalize upd H5 p (.lst (ys.map V.str)) = H6 at g6 hp6 hd6 ⊢
    have st6 := g6.stt st
    refine ⟨p, rfl, ⟨_, SqL.of hp6⟩, fun D nD => ?_⟩
    have ndD : D ≠ wl := fun z => by
      rw [z] at nD
      exact well_ne st6.well nD
    have HD : H D = none := g6.but.free g6.well nD
    have GD : G5 D = none := st6.sub.free nD
    have g7 := g6.trans (Gr.same st6 (same_new nD (.lst [])))
    refine lc_it (walk_list (xs := ys.map V.str)) (fun i H2 => ∃ G2 zs, Gr wl G H G2 H2 ∧ G2 D = none ∧ H2 D = some (.lst zs) ∧ H2 p = some (.lst (ys.map V.str)) ∧ H2 dd = some (.dK kvs) ∧ Same G5 G2 ∧ DqAll K G2 zs ((ys.take i).map (rowF fb)) ∧ zs.length = i)
      ⟨G5, [], g7, GD, upd_same, same_new nD _ _ _ hp6, same_new nD _ _ _ hd6, Same.refl G5, .nil, rfl⟩ (fun i H2 _ ⟨_, _, _, _, _, z, _⟩ => SqL.of z) ?_ ?_
    · rintro i y0 H7 H2 hi ⟨G2, zs, g2, gD2, hD2, hp2, hd2, sG, hE, hzl⟩ ⟨rfl, hy⟩
      refine ⟨rfl, ?_⟩
      simp only [tYes, ↓reduceIte]
      obtain ⟨x, hx', rfl⟩ : ∃ x, ys[i]? = some x ∧ V.str x = y0 := by
        rw [List.getElem?_map] at hy
        cases z : ys[i]? with
        | none => rw [z] at hy; cases hy
        | some x => rw [z] at hy; exact ⟨x, rfl, Option.some.inj hy⟩
      have mx : x ∈ fb.map (·.1) := hp.mem_iff.mp (List.mem_of_getElem? hx')
      have gk := DGet.k (k := .inr x) hd2
      rcases tab_look (x := x) tp5 with ⟨_, l0⟩ | ⟨v1, d1, e1, l1, D1⟩
      · have := look_some mx
        rw [l0] at this
        cases this
      rw [e1] at gk
      refine ⟨_, rfl, _, rfl, _, rfl, dd, v1, rfl, gk, Nat.le_of_lt (zs20 (by show 2 ≤ 20; decide)), fun t ob ht hob => ?_⟩
      obtain ⟨g8, D8⟩ := Gr.tup (K := K) (vs := [.str x, v1]) (ds := [.str x, d1]) (g2.stt st) ht hob (.cons (.str _) (.cons (Dq.mono sG _ _ D1) .nil))
      have er : rowF fb x = .tuple [.str x, d1] := by unfold rowF; rw [l1]; rfl
      have nDp : p ≠ D := fun z => by rw [z] at hp6; rw [nD] at hp6; cases hp6
      have nDd : dd ≠ D := fun z => by rw [z] at hd6; rw [nD] at hd6; cases hd6
      have nlw : p ≠ wl := fun z => by
        rw [z] at hn
        exact well_ne st5.well hn
      have hD8 := g8.lst ndD hD2
      have i20 : zs.length ≤ 20 := by rw [List.length_map] at hi; omega
      refine ⟨zs, hD8, zs20 i20, ?_⟩
      have gD8 := g8.off gD2 (by rw [hD2]; exact fun z => nomatch z)
      refine ⟨_, zs ++ [.ref t], (g2.trans g8).ownL HD gD8 ndD _, gD8, upd_same, by rw [upd_ne nDp]; exact g8.lst nlw hp2, by rw [upd_ne nDd]; exact g8.lst ndw hd2, sG.trans g8.gg, ?_, by rw [List.length_append, hzl]; rfl⟩
      rw [List.take_add_one, hx', List.map_append]
      refine (DqAll.mono g8.gg _ _ hE).append ?_
      show DqAll K _ [.ref t] [rowF fb x]
      rw [er]
      exact .cons D8 .nil
    · rintro H2 ⟨G2, zs, g2, gD2, hD2, hp2, hd2, sG, hE, hzl⟩
      rw [List.length_map, List.take_length] at hE
      refine ⟨D, zs, rfl, .inl ⟨SqL.of hD2, fun t ob ht hob => ?_⟩⟩
      obtain ⟨g8, D8⟩ := Gr.tup (K := K) (vs := zs) (ds := ys.map (rowF fb)) (g2.stt st) ht hob hE
      refine (fun bh : ByH ds (ys.map (rowF fb)) h => q _ _ _ _ (g2.trans g8) D8 (closure b hj kw hin bh) bh) ?_
      have key : ∀ y k, lookB fb y = some k → lookB (bkOf (.tuple (ys.map (rowF fb)))) y = some k := fun y k l => by
        have my : y ∈ ys := hp.mem_iff.mpr (by
          obtain ⟨pr, mp, e, _⟩ := look_mem l
          exact List.mem_map.mpr ⟨pr, mp, e⟩)
        have er : rowF fb y = .tuple [.str y, k] := by unfold rowF; rw [l]; rfl
        have mb : (y, k) ∈ bkOf (.tuple (ys.map (rowF fb))) := List.mem_map.mpr ⟨rowF fb y, List.mem_map.mpr ⟨y, my, rfl⟩, by rw [er]; rfl⟩
        refine look_nodup (p := (y, k)) ?_ mb
        rw [bk_names, List.map_map]
        have : (rowN ∘ rowF fb) = id := by funext z; rfl
        rw [this, List.map_id]
        exact nd
      have all : ∀ y k, lookB (bkOf (.tuple ds)) y = some k → lookB fb y = some k ∧ lookB fb (calD y h) = some (kmd 30 k h) := fun y k l => by
        obtain ⟨pr, mp, rfl, rfl⟩ := look_mem l
        exact inv.b pr mp
      refine ⟨fun r mr => ?_, fun y k l => key y k (all y k l).1, fun y k l => key _ _ (all y k l).2, ?_, fun z => ?_, ?_⟩
      · obtain ⟨x, mx, rfl⟩ := List.mem_map.mp mr
        obtain ⟨d1, l1⟩ := Option.isSome_iff_exists.mp (look_some (hp.mem_iff.mp mx))
        refine ⟨x, d1, by unfold rowF; rw [l1]; rfl, inv.a x d1 l1⟩
      · rw [List.pairwise_map]
        exact up
      · have y0 : ys = [] := List.map_eq_nil_iff.mp z
        cases eds : ds with
        | nil => exact b.ne eds
        | cons r rs =>
          obtain ⟨y, k, er, _⟩ := b.rows r (by rw [eds]; exact List.mem_cons_self)
          have mp : (y, k) ∈ bkOf (.tuple ds) := List.mem_map.mpr ⟨r, by rw [eds]; exact List.mem_cons_self, by rw [er]; rfl⟩
          have l := (inv.b _ mp).1
          obtain ⟨pr, mpr, e, _⟩ := look_mem l
          have : y ∈ ys := hp.mem_iff.mpr (List.mem_map.mpr ⟨pr, mpr, e⟩)
          rw [y0] at this
          cases this
      · rw [List.length_map, lys]
        omega
end
end Toy
set_option Elab.async false
set_option linter.all false
set_option maxRecDepth 100000
set_option maxHeartbeats 1000000
namespace Toy
open PySem L2 PyProof.Rows
theorem wr_len {y : Str} (h : wrB y = true) : y.length ≤ 8 := by
  unfold wrB at h
  have e : y.cps.toList.length = y.length := Array.length_toList
  cases z : y.cps.toList with
  | nil =>
    rw [z, List.length_nil] at e
    omega
  | cons c r =>
    rw [z] at h
    have h' : (decide (r.length ≤ 7) && (capB c && r.all smB)) = true := h
    rw [Bool.and_eq_true, decide_eq_true_eq] at h'
    rw [z, List.length_cons] at e
    omega
/-- a hole drawn of a book's names is one of it -/
theorem hole_of {j : Nat} {ds : List PyData} {h : Ho} (b : BookL j ds) (hi : HoIn (ds.map rowN) h) : HoW h ∧ ∀ y0, h = .nm y0 → (lookB (bkOf (.tuple ds)) y0).isSome = true := by
  cases h with
  | th => exact ⟨trivial, fun _ e => nomatch e⟩
  | nm y =>
    obtain ⟨my, nt⟩ := hi
    refine ⟨?_, fun y0 e => ?_⟩
    · obtain ⟨r, mr, rfl⟩ := List.mem_map.mp my
      obtain ⟨y1, k1, rfl, t1, _⟩ := b.rows r mr
      obtain ⟨y2, k2, e, n2, _⟩ := tb_rows (b.tb 30 (by decide)) _ mr
      injection e with e
      injection e with e3 _
      injection e3 with e3
      subst e3
      have nt' : (!decide (39 ∈ y1.cps.toList)) = true := nt
      have no : 39 ∉ y1.cps.toList := by simpa using nt'
      have hw : wrB y1 = true := by
        rcases name_ways n2 with ⟨hw, _⟩ | ⟨_, A, B, ex, _⟩
        · exact hw
        · exact absurd (show 39 ∈ y1.cps.toList by rw [ex]; simp) no
      exact ⟨hw, wr_len hw, t1.1⟩
    · injection e with e
      subst e
      refine look_some ?_
      rw [bk_names]
      exact my
end Toy
set_option Elab.async false
set_option linter.all false
set_option maxRecDepth 100000
set_option maxHeartbeats 4000000
/-! == of any data (an empty dict within it, too) and one text; and a tuple of one text; x in a list of texts -/
namespace L2
open PySem PySem.W PySem.Spec PyProof.Rows PySem.SeqAt PySem.MeetsSeq
open PySem.AutoSeq1 (wpAny_loadPart')
theorem str_eq_declines_dict (b : Str) (u : Tok) (l : Addr) (c : Value) (es : Array DictEntry) (n : Nat) (dd : Option Addr) (sl : Array (Option Value)) :
    Meets (Builtin.«str.__eq__» ⟨[.str b u, .ref l], []⟩) (fun _ R s => s.heap.get? l = some { cls := c, dict := dd, data := .dict es n, slots := sl } ∧ R (.ok (.ret .notImplemented)) s) :=
  .of_wp fun prog w A R s h => by obtain ⟨hp, g, d, tk, os⟩ := s; obtain ⟨hl, h⟩ := h; wp_walk using wpAny_loadPart' hl, wpAny_load hl; exact ⟨_, rfl, h⟩
theorem tuple_eq_declines_dict (l b : Addr) (items : Array Value) (es : Array DictEntry) (n n2 : Nat) (dd dd2 : Option Addr) (sl sl2 : Array (Option Value)) :
    Meets (Builtin.«tuple.__eq__» ⟨[.ref l, .ref b], []⟩) (fun _ R s => s.heap.get? l = some { cls := .type "tuple", dict := dd, data := .seq items n, slots := sl } ∧ s.heap.get? b = some { cls := .type "dict", dict := dd2, data := .dict es n2, slots := sl2 } ∧ R (.ok (.ret .notImplemented)) s) :=
  .of_wp fun prog w A R s h => by obtain ⟨hp, g, d, tk, os⟩ := s; obtain ⟨hl, hb, h⟩ := h; have f1 := F.sub_dict_tuple; wp_walk using wpAny_loadPart' hl, wpAny_loadPart' hb; exact ⟨_, rfl, h⟩
section
variable {prog : Program} {w : World} {A : Around} {E : Value → Shared → Prop} {s : Shared}
theorem dict_declines {a : Addr} {x : Value} {T : String} {Q : Value → Shared → Prop} (ha : s.TypeIs (.ref a) "dict") (hx : s.TypeIs x T) (hs : isSubtype (.type T) (.type "dict") = pure false) (h : Q .notImplemented s) :
    wpAny (model prog w) A (call (.builtin "dict.__eq__") [.ref a, x]) Q E s := by
  refine wpAny_call_entry PySem.F.slot_dict_eq ha PySem.F.entry_dict_eq ?_ (PySem.F.args_dict_eq_2 _ _)
  show wpAny _ _ (Builtin.Dict.dictSlotArgs "__eq__" ⟨[.ref a, x], []⟩ >>= _) _ _ s
  refine wpAny_bind ?_
  unfold Builtin.Dict.dictSlotArgs
  refine wpAny_bind (wpAny_notOrdered_dict ha ?_)
  show wpAny _ _ (pure (Value.ref a, x)) _ _ s
  refine wpAny_pure ?_
  refine wpAny_bind (wpAny_isInstance (T := T) hx hs ?_)
  simp only [Bool.not_false, if_true]
  refine wpAny_bind (wpAny_rule ?_)
  exact wpAny_bind (wpAny_pure (wpAny_pure ⟨_, rfl, h⟩))
end
section
variable {A : Around} {s : Shared}
structure DcAt (s : Shared) (a : Addr) (es : Array DictEntry) : Prop where
  ex : ∃ o n, s.heap.get? a = some o ∧ o.cls = .type "dict" ∧ o.data = .dict es n
theorem RcAt.dict_str {a : Addr} {es : Array DictEntry} (b : Str) (u : Tok) (h : DcAt s a es) (hu : A.units < cLine) : RcAt A s (.ref a) (.str b u) false := fun prog w E Q q => by
  obtain ⟨⟨cls, dd, data, sl⟩, n, ho, hc, hd⟩ := h.ex
  simp only at hc hd
  subst hc hd
  exact rc_eq_decline_or (k := false) ⟨_, ho, rfl⟩ (typeIs_str s b u) (by decide) F.sub_str_dict F.slot_dict_eq F.slot_str_eq_refl
    (fun _ hq => dict_declines ⟨_, ho, rfl⟩ (typeIs_str s b u) F.sub_str_dict hq)
    (fun _ hq => call_meets F.slot_str_eq_refl (typeIs_str s b u) F.entry_str_eq (F.args_str_eq_2 _ _) (str_eq_declines_dict b u a (.type "dict") es n dd sl) ⟨ho, hq⟩)
    (fun _ hq => wpAny_of_eq (rfl : isSame (.ref a) (.str b u) = pure false) hq) (.inr hu) q
theorem EqAt.dict_str {a : Addr} {es : Array DictEntry} (b : Str) (u : Tok) (h : DcAt s a es) (hu : A.units < cLine) : EqAt A s (.ref a) (.str b u) false := fun prog w E Q q => by
  unfold eqBool
  refine wpAny_holding ?_
  refine wpAny_ite_split (fun hab => absurd (eq_of_beq hab) nofun) (fun _ => ?_)
  exact wpAny_bind (RcAt.dict_str b u h hu prog w E _ (wpAny_truthy_bool q))
theorem RcAt.str_dict {a : Addr} {es : Array DictEntry} (b : Str) (u : Tok) (h : DcAt s a es) (hu : A.units < cLine) : RcAt A s (.str b u) (.ref a) false := fun prog w E Q q => by
  obtain ⟨⟨cls, dd, data, sl⟩, n, ho, hc, hd⟩ := h.ex
  simp only at hc hd
  subst hc hd
  exact rc_eq_decline_or (k := false) (typeIs_str s b u) ⟨_, ho, rfl⟩ (by decide) F.sub_dict_str F.slot_str_eq F.slot_dict_eq_refl
    (fun _ hq => call_meets F.slot_str_eq (typeIs_str s b u) F.entry_str_eq (F.args_str_eq_2 _ _) (str_eq_declines_dict b u a (.type "dict") es n dd sl) ⟨ho, hq⟩)
    (fun _ hq => dict_declines ⟨_, ho, rfl⟩ (typeIs_str s b u) F.sub_str_dict hq)
    (fun _ hq => wpAny_of_eq (rfl : isSame (.str b u) (.ref a) = pure false) hq) (.inr hu) q
theorem EqAt.str_dict {a : Addr} {es : Array DictEntry} (b : Str) (u : Tok) (h : DcAt s a es) (hu : A.units < cLine) : EqAt A s (.str b u) (.ref a) false := fun prog w E Q q => by
  unfold eqBool
  refine wpAny_holding ?_
  refine wpAny_ite_split (fun hab => absurd (eq_of_beq hab) nofun) (fun _ => ?_)
  exact wpAny_bind (RcAt.str_dict b u h hu prog w E _ (wpAny_truthy_bool q))
theorem RcAt.dict_tuple {a b : Addr} {es : Array DictEntry} {items : Array Value} (h : DcAt s a es) (hb : s.heap.IsTuple b items) (hu : A.units < cLine) : RcAt A s (.ref a) (.ref b) false := fun prog w E Q q => by
  obtain ⟨⟨cls, dd, data, sl⟩, n, ho, hc, hd⟩ := h.ex
  obtain ⟨⟨cls2, dd2, data2, sl2⟩, ho2, hc2, n2, hd2⟩ := id hb
  simp only at hc hd hc2 hd2
  subst hc hd hc2 hd2
  have hne : a ≠ b := fun e => by
    subst e
    rw [ho] at ho2
    exact absurd (congrArg Obj.cls (Option.some.inj ho2)) (by simp)
  exact rc_eq_decline_or (k := false) ⟨_, ho, rfl⟩ ⟨_, ho2, rfl⟩ (by decide) F.sub_tuple_dict F.slot_dict_eq F.slot_tuple_eq_refl
    (fun _ hq => dict_declines ⟨_, ho, rfl⟩ (T := "tuple") ⟨_, ho2, rfl⟩ F.sub_tuple_dict hq)
    (fun _ hq => call_meets F.slot_tuple_eq_refl ⟨_, ho2, rfl⟩ F.entry_tuple_eq (F.args_tuple_eq_2 _ _) (tuple_eq_declines_dict b a items es n2 n dd2 dd sl2 sl) ⟨ho2, ho, hq⟩)
    (fun _ hq => wpAny_isSame_ref_other hne ho ho2 (by simp) hq) (.inr hu) q
/-- whether data is this text -/
def isTx (d : PyData) (z : Str) : Bool := match d with
  | .str x => x == z
  | _ => false
def isTx' (z : Str) (d : PyData) : Bool := match d with
  | .str x => z == x
  | _ => false
theorem eqAt_tx {d : PyData} {v : Value} {as : List Addr} (z : Str) (t : Tok) (r : Reads s.heap v d as) (hu : A.units < cLine) : EqAt A s v (.str z t) (isTx d z) := by
  cases r with
  | none => exact EqAt.none_str z t
  | bool b => exact EqAt.bool_str b z t
  | int i u => exact EqAt.int_str i u z t
  | str x u => exact EqAt.str_str x u z t
  | list k1 k2 k3 k4 => exact EqAt.list_str z t ⟨_, k1, k2, _, k3⟩ hu
  | tuple k1 k2 k3 k4 => exact EqAt.tuple_str z t ⟨_, k1, k2, _, k3⟩ hu
  | dict k1 k2 k3 k4 k5 => exact EqAt.dict_str z t ⟨_, _, k1, k2, k3⟩ hu
theorem eqAt_tx' {d : PyData} {v : Value} {as : List Addr} (z : Str) (t : Tok) (r : Reads s.heap v d as) (hu : A.units < cLine) : EqAt A s (.str z t) v (isTx' z d) := by
  cases r with
  | none => exact EqAt.str_none z t
  | bool b => exact EqAt.str_bool z t b
  | int i u => exact EqAt.str_int z t i u
  | str x u => exact EqAt.str_str z t x u
  | list k1 k2 k3 k4 => exact EqAt.str_list z t ⟨_, k1, k2, _, k3⟩ hu
  | tuple k1 k2 k3 k4 => exact EqAt.str_tuple z t ⟨_, k1, k2, _, k3⟩ hu
  | dict k1 k2 k3 k4 k5 => exact EqAt.str_dict z t ⟨_, _, k1, k2, k3⟩ hu
/-- whether data is a tuple of this text alone -/
def isOne (d : PyData) (z : Str) : Bool := match d with
  | .tuple [x] => isTx x z
  | _ => false
theorem rcAt_one {d : PyData} {v : Value} {as : List Addr} {b : Addr} {items : Array Value} (z : Str) (t : Tok) (r : Reads s.heap v d as) (hb : s.heap.IsTuple b items) (hi : items = #[.str z t]) (hu : A.units + 1 < cLine) : RcAt A s v (.ref b) (isOne d z) := by
  have hu0 : A.units < cLine := by omega
  cases r with
  | none => exact RcAt.none_tuple hb hu0
  | bool y => exact RcAt.bool_tuple y hb hu0
  | int y u => exact RcAt.int_tuple y u hb hu0
  | str y u => exact RcAt.str_tuple y u hb hu0
  | list k1 k2 k3 k4 => exact RcAt.list_tuple ⟨_, k1, k2, _, k3⟩ hb hu0
  | dict k1 k2 k3 k4 k5 => exact RcAt.dict_tuple ⟨_, _, k1, k2, k3⟩ hb hu0
  | @tuple l o vs n xs as₁ k1 k2 k3 k4 =>
    have hl : s.heap.IsTuple l vs := ⟨_, k1, k2, _, k3⟩
    subst hi
    have n1 : vs.size = xs.length := by simpa using ReadsAll.length _ _ _ k4
    have key : ∀ e : Nat → Bool, (∀ j (j1 : j < vs.size) (j2 : j < (#[Value.str z t] : Array Value).size), EqAt A.in1 s vs[j] (#[Value.str z t] : Array Value)[j] (e j)) → (((List.range (min vs.size (#[Value.str z t] : Array Value).size)).all e && vs.size == (#[Value.str z t] : Array Value).size) = isOne (.tuple xs) z) → RcAt A s (.ref l) (.ref b) (isOne (.tuple xs) z) := fun e he e2 => by
      rw [← e2]
      exact RcAt.tuples hl hb hu0 he
    obtain ⟨vl⟩ := vs
    cases k4 with
    | nil => exact key (fun _ => true) (fun j j1 _ => by simp at j1) (by simp [isOne])
    | @cons v0 vr d0 dr as1 bs1 q1 q2 =>
      refine key (fun _ => isTx d0 z) (fun j j1 j2 => ?_) ?_
      · have j0 : j = 0 := by simpa using j2
        subst j0
        exact eqAt_tx z t q1 hu
      · cases q2 with
        | nil => simp [isOne]
        | cons q3 q4 => simp [isOne]
end
section
variable {X : Cx}
/-- x == (one text,) -/
def rEqO (K : PySem.W.Frag) : R2 := fun x y H Q => ∃ (d : PyData) (b : Addr) (z : Str), Dq K H x d ∧ y = .ref b ∧ SqT K H b [.str z] ∧ Q (.bl (isOne d z)) H
theorem op_eqO (hu : X.A.units + 64 < cLine) : OpR X (compareOp .Eq) (rEqO X.K) := by
  intro pins s σ H x y v u Q I rx ry h
  obtain ⟨d, b, z, hd, rfl, hb, q⟩ := h
  obtain ⟨as, r1⟩ := Dq.reads I d x v hd rx
  cases ry
  obtain ⟨its, r, pl, hz⟩ := I.tuple hb
  cases r with
  | cons r1' r2' =>
    cases r2'
    obtain ⟨t, rfl⟩ := r1'
    exact rcAt_one z t r1 pl rfl (by omega) _ _ _ _ ⟨.bl _, H, I, rfl, q⟩
/-- x in a list of texts -/
def rInTx (K : PySem.W.Frag) : R2 := fun x y H Q => ∃ (d : PyData) (b : Addr) (zs : List Str), Dq K H x d ∧ y = .ref b ∧ SqL K H b (zs.map V.str) ∧ Q (.bl (zs.any fun z => isTx' z d)) H
def txU (d : PyData) : Value → Bool
  | .str z _ => isTx' z d
  | _ => false
theorem any_txU {d : PyData} : ∀ {zs : List Str} {us : List Value}, Vals (zs.map V.str) us → us.any (txU d) = zs.any fun z => isTx' z d
  | [], [], _ => rfl
  | z :: zs, u :: us, .cons r t => by
    obtain ⟨t', rfl⟩ := r
    rw [List.any_cons, List.any_cons, any_txU t]
    rfl
theorem mem_txU {A : Around} {s : Shared} {d : PyData} {v : Value} {as : List Addr} (r : Reads s.heap v d as) (hu : A.units < cLine) : ∀ {zs : List Str} {us : List Value}, Vals (zs.map V.str) us → ∀ u ∈ us, SeqAt.EqAt A s u v (txU d u)
  | [], [], _ => fun u hu => by cases hu
  | z :: zs, u :: us, .cons r1 t => fun u' hm => by
    obtain ⟨t', rfl⟩ := r1
    rcases List.mem_cons.mp hm with rfl | hm
    · exact eqAt_tx' z t' r hu
    · exact mem_txU r hu t u' hm
theorem op_inTx (hu : X.A.units + 64 < cLine) : OpR X (compareOp .In) (rInTx X.K) := by
  intro pins s σ H x y v u Q I rx ry h
  obtain ⟨d, b, zs, hd, rfl, hb, q⟩ := h
  obtain ⟨as, r1⟩ := Dq.reads I d x v hd rx
  cases ry
  obtain ⟨its, r, pl, hz⟩ := I.list hb
  refine SeqAt.in_listAt (txU d) pl.isList (fun w hw => mem_txU r1 (by show X.A.units + 1 < cLine; omega) r w (by simpa using hw)) ⟨.bl _, H, I, rfl, ?_⟩
  rw [show its.toArray.any (txU d) = its.any (txU d) by simp, any_txU r]
  exact q
end
end L2
set_option Elab.async false
set_option linter.all false
set_option maxRecDepth 100000
set_option maxHeartbeats 4000000
namespace Toy
open PySem L2 PyProof.Rows
def sndOf : PyData → PyData
  | .tuple [_, x] => x
  | _ => .none
/-- the law's own look at a hole -/
def nmIn (bk : List (Str × PyData)) : PyData → Bool
  | .str y => (lookB bk y).isSome && noTick y
  | _ => false
def lhB (bk : List (Str × PyData)) (d : PyData) : Bool := if headB d 2 L1 = true then nmIn bk (sndOf d) else isOne d "thing"
theorem head_two {d : PyData} (h : headB d 2 L1 = true) : ∃ w x, d = .tuple [.str w, x] ∧ w1 w = true := by
  obtain ⟨w, r, rfl, hl⟩ := head_form h
  rcases r with _ | ⟨a, _ | ⟨b, r⟩⟩
  · cases hl
  · have z : (decide (1 + 1 = 2) && inV (.str w) (L1.map V.str)) = true := h
    rw [Bool.and_eq_true] at z
    refine ⟨w, a, rfl, ?_⟩
    have z2 := z.2
    have e : inV (.str w) (L1.map V.str) = (("name" : Str) == w || false) := rfl
    rw [e, Bool.or_false] at z2
    have z3 : ("name" : Str) = w := eq_of_beq z2
    rw [← z3]
    decide +kernel
  · simp only [List.length_cons] at hl
    omega
theorem head_w1 {w : Str} {x : PyData} (h : w1 w = true) : headB (.tuple [.str w, x]) 2 L1 = true := by
  have e : w = "name" := by
    have z := of_decide_eq_true h
    injection z
  subst e
  show (decide (1 + 1 = 2) && inV (.str ("name" : Str)) (L1.map V.str)) = true
  decide +kernel
theorem w1_eq {w : Str} (h : w1 w = true) : w = "name" := by
  have z := of_decide_eq_true h
  injection z
theorem kh_lh {m : Nat} (h1 : 1 ≤ m) {bk : List (Str × PyData)} (hb : ∀ x, (lookB bk x).isSome = true → nmB (.str x) = true) (d : PyData) : khB m bk d = lhB bk d := by
  obtain ⟨n, rfl⟩ : ∃ k, m = k + 1 := ⟨m - 1, by omega⟩
  unfold lhB
  cases hh : headB d 2 L1 with
  | true =>
    rw [if_pos rfl]
    obtain ⟨w, x, rfl, hw⟩ := head_two hh
    obtain rfl := w1_eq hw
    show khB (n + 1) bk (.tuple [.str "name", x]) = nmIn bk x
    have noF : nmB x = false → khB (n + 1) bk (.tuple [.str "name", x]) = false := fun e => by
      have f : fB (n + 1) (.tuple [.str "name", x]) = false := by rw [fB_nam, e, Bool.and_false]
      unfold khB knB kdB
      rw [f]
      rfl
    cases x with
    | str y =>
      show _ = ((lookB bk y).isSome && noTick y)
      cases hy : wrB y with
      | true =>
        have t : noTick y = true := by
          unfold noTick
          rw [decide_eq_false (wr_tick hy)]
          rfl
        rw [t, Bool.and_true]
        exact kh_name (m := n + 1) h1 bk hy (Nat.le_trans (wr_len hy) (by decide))
      | false =>
        have e0 : khB (n + 1) bk (.tuple [.str "name", .str y]) = false := by
          unfold khB
          have : hoB (.tuple [.str "name", .str y]) = false := by
            show (w1 "name" && wrB y) = false
            rw [hy, Bool.and_false]
          rw [this, Bool.and_false]
        rw [e0]
        cases hl : (lookB bk y).isSome with
        | false => rfl
        | true =>
          rcases name_ways (hb y hl) with ⟨a, _⟩ | ⟨_, A, B, e, _⟩
          · rw [a] at hy; cases hy
          · have : noTick y = false := by
              unfold noTick
              rw [decide_eq_true (show 39 ∈ y.cps.toList by rw [e]; simp)]
              rfl
            rw [this]
            rfl
    | _ => exact noF rfl
  | false =>
    rw [if_neg Bool.false_ne_true]
    cases ho : isOne d "thing" with
    | true =>
      have : d = hoD .th := by
        unfold isOne at ho
        split at ho
        · rename_i x
          unfold isTx at ho
          split at ho
          · have : _ = ("thing" : Str) := eq_of_beq ho
            subst this
            rfl
          · cases ho
        · cases ho
      rw [this]
      exact kh_thing (m := n + 1) h1 bk
    | false =>
      have : hoB d = false := by
        cases e : hoB d with
        | false => rfl
        | true =>
          unfold hoB at e
          split at e
          · rename_i w
            have z : V.str w = V.str "thing" := of_decide_eq_true e
            injection z with z
            rw [z] at ho
            have : isOne (.tuple [.str "thing"]) "thing" = true := by decide +kernel
            rw [this] at ho
            cases ho
          · rename_i w x
            rw [Bool.and_eq_true] at e
            rw [head_w1 e.1] at hh
            cases hh
          · cases e
      unfold khB
      rw [this, Bool.and_false]
def spHf (K : PySem.W.Frag) : Sp := fun vs H Q _ => ∃ (v u : V) (ds : List PyData) (e : PyData), vs = [v, u] ∧ Dq K H v (.tuple ds) ∧ RowsP ds ∧ ds.length ≤ 1000 ∧ Dq K H u e ∧ ∀ H', Same H H' → Q (.bl (lhB (bkOf (.tuple ds)) e)) H'
theorem any_tx {x : Str} (l : List Str) : (l.any fun z => isTx' z (.str x)) = l.any fun y => decide (y = x) := by
  induction l with
  | nil => rfl
  | cons y l ih =>
    rw [List.any_cons, List.any_cons, ih]
    show ((y == x) || _) = _
    rw [Bool.beq_eq_decide_eq]
theorem any_no {d : PyData} (h : ∀ z, isTx' z d = false) (l : List Str) : (l.any fun z => isTx' z d) = false := by
  induction l with
  | nil => rfl
  | cons y l ih => rw [List.any_cons, ih, h]; rfl
section
variable {P : Program} {w : World} {K : PySem.W.Frag} {mg : Str → Option Value} {base : Heap}
end
end Toy
set_option Elab.async false
set_option linter.all false
set_option maxRecDepth 100000
set_option maxHeartbeats 4000000
namespace L2
open PySem PySem.Spec PyProof.Rows
/-! ### f(k2 = w, k1 = v): two by keywords alone, the second one first -/
structure KB2 (K : PySem.W.Frag) (fd : FuncData) (k1 k2 : Str) : Prop where
  to : ∀ (s : Shared) (a b : Value), BindsTo s fd ⟨[], [(k2, b), (k1, a)]⟩ [(k1, a), (k2, b)]
theorem Fun.binds2 {K : PySem.W.Frag} {x qual : Str} {st : Stmt} {f : Addr} {fd : FuncData} {k1 k2 : Str} (F : Fun K x qual st f fd)
    (h : ∀ (kV doc pm : Value) (an : Option Addr) (cdv ct a b : Value), bindArgs (PySem.W.fnOf x qual (defArgs st) (defBody st) (defScope st) .none kV doc pm an cdv ct) ⟨[], [(k2, b), (k1, a)]⟩ = pure [(k1, a), (k2, b)]) : KB2 K fd k1 k2 := by
  obtain ⟨oc, od, kV, doc, pm, an, cdv, ct, osl, rfl, lk, hcd⟩ := F.ex
  exact ⟨fun s a b => BindsTo.of_eq (h kV doc pm an cdv ct a b)⟩
def tCallK2 (sp : Sp) (tk : TA) : TE := fun σ H Q => tk σ H fun zs H2 => ∃ y x, zs = [y, x] ∧ sp [x, y] H2 Q E0
theorem pe_callK2 {X : Cx} {k : Nat} {f : Addr} {fd : FuncData} {k1 k2 : Str} {sp : Sp} {x : Str} {p pos : Pos} {kws : List Keyword} {tk : TA} (F : FnOk X.prog X.w X.K X.mg X.base CX0 k f fd [k1, k2] sp) (hr : Room k X.A) (hg : Gl X x) (hm : X.mg x = some (.ref f)) (hk : PySem.W.keepIn X.K (.ref f) = true) (hb : KB2 X.K fd k1 k2)
    (hkw : PK X kws tk) (hall : (backToKw pos (keywordEach kws X.env)).all (·.1.isSome) = true := by rfl) (hks : (backToKw pos (keywordEach kws X.env)).filterMap (·.1) = [k2, k1] := by rfl) (hdb : (x == ("__debug__" : Str)) = false := by decide)
    (hpl : ((backTo pos (starEach [] X.env)).any (·.1) || (backToKw pos (keywordEach kws X.env)).any (·.1.isNone)) = false := by rfl) :
    PE X (.Call (.Name x p) [] kws pos) (tCallK2 sp tk) := by
  refine ⟨fun pins s σ H Q I h => ?_⟩
  refine wpAny_Call_Name_kw (ld_glob I hg hm ?_ hdb)
  refine PySem.W.callWith_KW0 (h₀ := X.base) I.ok.mod.kin hk hall ?_ hpl
  refine thn (hkw.run pos pins s σ H _ I h) fun ws s2 ⟨zs, H2, I2, rz, y, x, ez, q2⟩ => ⟨I2.kIn, ?_⟩
  subst ez
  cases rz with
  | cons r1 rt =>
    cases rt with
    | cons r2 rt =>
      cases rt
      rename_i b1 a1 _
      rw [hks]
      refine wpAny_call (codeAny_mono (F.run X.A X.stack s2 H2 ⟨[], [(k2, b1), (k1, a1)]⟩ [a1, b1] [x, y] Q E0 hr I2.env0 (hb.to s2 a1 b1) (.cons r2 (.cons r1 .nil)) q2) fun r s' hq => ?_)
      cases r with
      | error e => exact (pass0 (X := X)) pins σ H2 s2 e s' I2 hq
      | ok fl =>
        cases fl with
        | ret u => exact I2.after hq
        | next => exact False.elim hq
        | brk => exact False.elim hq
        | cont => exact False.elim hq
end L2
namespace Toy
open PySem L2 PyProof.Rows
/-- what a book that is one tells of its rows -/
theorem book_rows {m : Nat} {ds : List PyData} (h : tbB m (.tuple ds) = true) : RowsP ds ∧ (∀ x, (lookB (bkOf (.tuple ds)) x).isSome = true → nmB (.str x) = true) := by
  have r := tb_rows h
  refine ⟨fun e me => ?_, fun x hx => ?_⟩
  · obtain ⟨y, k, e1, _⟩ := r e me
    exact ⟨y, k, e1⟩
  · obtain ⟨k, hk⟩ := Option.isSome_iff_exists.mp hx
    obtain ⟨p, mp, e1, e2⟩ := look_mem hk
    obtain ⟨e, me, ee⟩ := List.mem_map.mp (show p ∈ ds.map (fun r => (rowN r, rowK r)) from mp)
    obtain ⟨y, k', e3, hn, _⟩ := r e me
    subst e3
    rw [← e1, ← ee]
    exact hn
theorem tb_cp {m : Nat} {d : PyData} (h : tbB m d = true) : cpB m d = true := by
  unfold tbB at h
  rw [Bool.and_eq_true] at h
  exact h.1
theorem cp_len {m : Nat} {ds : List PyData} (h : cpB m (.tuple ds) = true) : ds.length ≤ 80 := by
  have z : (decide (ds.length ≤ 80) && upB m "" ds) = true := h
  rw [Bool.and_eq_true, decide_eq_true_eq] at z
  exact z.1
theorem two_bl (a b : Bool) : (PyData.list [.bool a, .bool b]).showable = true ∧ (PyData.list [.bool a, .bool b]).shown.length ≤ sizeLine ∧ (PyData.list [.bool a, .bool b]).depth ≤ 60 := by
  have h : ∀ a b : Bool, ((PyData.list [.bool a, .bool b]).showable && (decide ((PyData.list [.bool a, .bool b]).shown.length ≤ 100) && decide ((PyData.list [.bool a, .bool b]).depth ≤ 60))) = true := by
    intro a b
    cases a <;> cases b <;> decide +kernel
  have z := h a b
  rw [Bool.and_eq_true, Bool.and_eq_true, decide_eq_true_eq, decide_eq_true_eq] at z
  exact ⟨z.1, Nat.le_trans z.2.1 (by decide), z.2.2⟩
theorem BookAt.on {K : PySem.W.Frag} {m : Nat} {H H' : Hp} {v : V} {d : PyData} (e : Same H H') (b : BookAt K m H v d) : BookAt K m H' v d := ⟨Dq.mono e _ _ b.1, b.2.1.on e, b.2.2⟩
def spKw (K : PySem.W.Frag) : Sp := fun vs H Q _ => ∃ (v u : V) (ds : List PyData) (e : PyData) (b : Bool), vs = [v, u, .bl b] ∧ BookAt K 120 H v (.tuple ds) ∧ Dq K H u e ∧ Jd e ∧ ∀ H', Same H H' → Q (.bl true) H'
section
variable {P : Program} {w : World} {K : PySem.W.Frag} {mg : Str → Option Value} {base : Heap}
end
end Toy
set_option Elab.async false
set_option linter.all false
set_option maxRecDepth 100000
set_option maxHeartbeats 4000000
namespace Toy
open PySem L2 PyProof.Rows
theorem calD_nm {y : Str} {h : Ho} (hy : nmB (.str y) = true) (k : HoW h) (hl : y.length + (hoT h).length < 60) : nmB (.str (calD y h)) = true := by
  have h' : (decide (y.length ≤ 60) && namL (Txt.split y quo)) = true := hy
  rw [Bool.and_eq_true] at h'
  have j := StrLaws.join_split y quo
  have len : (calD y h).length ≤ 60 := by
    have e : (calD y h).cps.toList.length = (y.cps.toList ++ 39 :: (hoT h).cps.toList).length := by rw [calD_cps]
    have e1 : (calD y h).cps.toList.length = (calD y h).length := Array.length_toList
    have e2 : y.cps.toList.length = y.length := Array.length_toList
    have e3 : (hoT h).cps.toList.length = (hoT h).length := Array.length_toList
    have := how_len k
    rw [List.length_append, List.length_cons] at e
    omega
  show (decide ((calD y h).length ≤ 60) && namL (Txt.split (calD y h) quo)) = true
  rw [decide_eq_true len, Bool.true_and]
  cases e : Txt.split y quo with
  | nil => exact absurd e (split_ne y quo)
  | cons p r =>
    rw [e] at j h'
    have nl : (wrB p && r.all fun q => decide (V.str q = V.str "") || wrB q) = true := h'.2
    rw [Bool.and_eq_true] at nl
    have last : (decide (V.str (hoT h) = V.str "") || wrB (hoT h)) = true := by
      cases h with
      | th => decide +kernel
      | nm z =>
        have kw : wrB z = true := k.1
        show (decide (V.str z = V.str "") || wrB z) = true
        rw [kw, Bool.or_true]
    have ej : calD y h = Str.join quo ((p :: r) ++ [hoT h]) := str_ext (by rw [join_last quo (hoT h) (p :: r) (fun z => nomatch z), j, calD_cps, quo_cps]; simp)
    have es : Txt.split (calD y h) quo = (p :: r) ++ [hoT h] := by
      rw [ej, ← TL.join_eq]
      refine TL.split_join (y := quo) (s := 39) (S := []) (parts := (p :: r) ++ [hoT h]) (by decide +kernel) quo_all (fun z => nomatch z) fun q hq => ?_
      rcases List.mem_append.mp hq with m | m
      · rcases List.mem_cons.mp m with rfl | m
        · exact wr_tick nl.1
        · exact piece_tick (List.all_eq_true.mp nl.2 q m)
      · rw [List.mem_singleton.mp m]
        exact how_tick k
    rw [es]
    show (wrB p && (r ++ [hoT h]).all fun q => decide (V.str q = V.str "") || wrB q) = true
    rw [nl.1, List.all_append, nl.2, Bool.true_and, Bool.true_and]
    show ((decide (V.str (hoT h) = V.str "") || wrB (hoT h)) && true) = true
    rw [last]
    rfl

theorem ticks_nm : ∀ (n : Nat) {x : Str}, nmB (.str x) = true → x.length + n ≤ 60 → nmB (.str (x ++ ⟨(List.replicate n 39).toArray⟩)) = true
  | 0, x, h, _ => by
    have e : x ++ ⟨(List.replicate 0 39).toArray⟩ = x := str_ext (by rw [app_cps]; simp)
    rw [e]
    exact h
  | n + 1, x, h, hl => by
    have hn := calD_nm (h := .th) h trivial (by have e0 : (hoT .th).length = 0 := by decide +kernel
                                                omega)
    have e : x ++ ⟨(List.replicate (n + 1) 39).toArray⟩ = calD x .th ++ ⟨(List.replicate n 39).toArray⟩ := str_ext (by
      rw [app_cps, app_cps, calD_cps]
      have e0 : (hoT .th).cps.toList = [] := by decide +kernel
      rw [e0, List.replicate_succ]
      simp)
    rw [e]
    refine ticks_nm n hn ?_
    have e1 : (calD x .th).cps.toList.length = (calD x .th).length := Array.length_toList
    have e2 : x.cps.toList.length = x.length := Array.length_toList
    have e0 : (hoT .th).cps.toList = [] := by decide +kernel
    rw [calD_cps, e0, List.length_append] at e1
    simp only [List.length_cons, List.length_nil] at e1
    omega
/-! ### long names are names -/
def spLn : Sp := fun vs H Q _ => ∃ (wl : Addr), vs = [.ref wl] ∧ WellAt H wl ∧ ∀ (x : Str) (H' : Hp), nmB (.str x) = true → txtOk x 60 → WellAt H' wl → But wl H H' → Q (.str x) H'
section
variable {P : Program} {w : World} {K : PySem.W.Frag} {mg : Str → Option Value} {base : Heap}
end
end Toy
set_option Elab.async false
set_option linter.all false
set_option maxRecDepth 100000
set_option maxHeartbeats 4000000
/-! t[::k] of a tuple, k from 1 on -/
namespace HT
open PySem PySem.Spec PyProof.Rows
section
variable {prog : Program} {w : World} {A : Around} {E : Value → Shared → Prop} {s : Shared}
theorem applied_step {sl : Addr} {vk : Value} {n : Nat} {k : Int} {Q : Int × Int × Nat → Shared → Prop} (hs : s.heap.IsSliceOf sl .none .none vk) (pk : IsPart vk (some k)) (hk : 1 ≤ k)
    (h : Q (0, k, Builtin.Slice.slicePlaces 0 (n : Int) k) s) : wpAny (model prog w) A (Builtin.Slice.sliceApplied (.ref sl) (pure (n : Int))) Q E s := by
  obtain ⟨os, hos, hcs, hds⟩ := id hs
  unfold Builtin.Slice.sliceApplied Builtin.Slice.sliceFields
  refine wpAny_bind (wpAny_bind (wpAny_field hos hds (x := .none) rfl (wpAny_bind (wpAny_field hos hds (x := .none) rfl (wpAny_bind (wpAny_field hos hds (x := vk) rfl (wpAny_pure ?_)))))))
  refine wpAny_bind (slicePart_ pk ?_)
  show wpAny _ _ (if (k == 0) = true then _ else _) _ _ s
  rw [if_neg (by intro z; have := eq_of_beq z; omega)]
  refine wpAny_bind (slicePart_none (wpAny_bind (slicePart_none (wpAny_bind (wpAny_pure ?_)))))
  have e : Builtin.Slice.sliceAdjust none none k (n : Int) = (0, (n : Int)) := by
    unfold Builtin.Slice.sliceAdjust
    have h1 : ¬ (k < 0) := by omega
    simp only [h1, if_false]
  show wpAny _ _ (match Builtin.Slice.sliceAdjust none none k (n : Int) with | (lo, hi) => pure (lo, k, Builtin.Slice.slicePlaces lo hi k)) _ _ s
  rw [e]
  exact wpAny_pure h
theorem places_le {n : Nat} {k : Int} (hk : 1 ≤ k) : Builtin.Slice.slicePlaces 0 (n : Int) k ≤ n := by
  unfold Builtin.Slice.slicePlaces
  rw [if_pos (by omega)]
  by_cases h : (0 : Int) < n
  · rw [if_pos h]
    have : ((n : Int) - 0 - 1) / k ≤ (n : Int) - 0 - 1 := Int.ediv_le_self _ (by omega)
    omega
  · rw [if_neg h]
    omega
/-- the items of t[::k] -/
def stepOf {α : Type} (xs : List α) (k : Int) : List α := (List.range (Builtin.Slice.slicePlaces 0 (xs.length : Int) k)).filterMap fun (j : Nat) => xs[((0 : Int) + (j : Int) * k).toNat]?
theorem stepOf_mem {α : Type} {xs : List α} {k : Int} {x : α} (h : x ∈ stepOf xs k) : x ∈ xs := by
  obtain ⟨j, _, e⟩ := List.mem_filterMap.mp h
  exact List.mem_of_getElem? e
theorem stepOf_len {α : Type} {xs : List α} {k : Int} (hk : 1 ≤ k) : (stepOf xs k).length ≤ xs.length := by
  refine Nat.le_trans (List.length_filterMap_le _ _) ?_
  rw [List.length_range]
  exact places_le hk
theorem getItem_tuple_step {t sl : Addr} {items : List Value} {vk : Value} {k : Int} {Q : Value → Shared → Prop} (ht : IsTup s.heap t items.toArray) (hs : s.heap.IsSliceOf sl .none .none vk) (pk : IsPart vk (some k)) (hk : 1 ≤ k)
    (h1 : Q (.ref t) s) (h : Q (.ref s.heap.objs.size) { s with heap := s.heap.push { cls := .type "tuple", data := .seq (stepOf items k).toArray } })
    (hsz : items.length ≤ sizeLine) : wpAny (model prog w) A (getItem (.ref t) (.ref sl)) Q E s := by
  have room : sizeOk (.seq (stepOf items k).toArray) := by
    show (stepOf items k).toArray.size ≤ sizeLine
    rw [List.size_toArray]
    exact Nat.le_trans (stepOf_len hk) hsz
  obtain ⟨os, hos, hcs, hds⟩ := id hs
  have tyS : s.TypeIs (.ref sl) "slice" := ⟨os, hos, hcs⟩
  unfold getItem
  try with_reducible refine wpAny_holding ?_
  first | refine wpAny_bind (wpAny_pure ?_) | skip
  refine wpAny_bind (wpAny_sequenceKey ht.typeIs (by decide) (wpAny_bind (wpAny_callSpecial?_slot (name := Str.ofString "__getitem__") ht.typeIs PyProof.Rows.slot_tuple_getitem
    (wpAny_call_entry PyProof.Rows.slot_tuple_getitem ht.typeIs entry_tuple_getitem ?_ (args_tuple_getitem _ _)))))
  show wpAny _ _ (Builtin.Tuple.tupleItemsOf (.ref t) >>= _) _ _ s
  refine wpAny_bind (tupleItemsOf_ ht (wpAny_bind (wpAny_typeOf tyS ?_)))
  rw [if_pos (by decide)]
  have ez : ((items.toArray.size : Nat) : Int) = (items.length : Int) := by rw [List.size_toArray]
  refine wpAny_bind ?_
  show wpAny _ _ (Builtin.Slice.sliceApplied (.ref sl) (pure ((items.toArray.size : Nat) : Int))) _ _ s
  refine applied_step hs pk hk ?_
  rw [List.size_toArray]
  show wpAny _ _ (if (((0 : Int) == 0) && (k == 1) && (Builtin.Slice.slicePlaces 0 (items.length : Int) k == items.toArray.size)) = true then _ else _) _ _ s
  refine wpAny_ite_split (fun _ => ?_) (fun _ => ?_)
  · refine wpAny_bind ?_
    show wpAny _ _ (typeOf (.ref t) >>= fun T => pure (T == .type "tuple")) _ _ s
    refine wpAny_bind (wpAny_typeOf ht.typeIs (wpAny_pure ?_))
    first
      | rw [if_pos (by decide)]
      | simp only [beq_self_eq_true, if_true]
    first
      | exact wpAny_bind (wpAny_rule (wpAny_pure ⟨_, rfl, wpAny_pure h1⟩))
      | exact wpAny_bind (wpAny_rule (wpAny_bind (wpAny_pure (wpAny_pure ⟨_, rfl, wpAny_pure h1⟩))))
  · have ee : ((List.range (Builtin.Slice.slicePlaces 0 (items.length : Int) k)).filterMap fun (j : Nat) => items.toArray[((0 : Int) + (j : Int) * k).toNat]?).toArray = (stepOf items k).toArray := by
      unfold stepOf
      simp
    rw [ee]
    first
      | exact wpAny_bind (m := Builtin.Tuple.tupleExact _) (wpAny_newObj_type (wpAny_pure ⟨_, rfl, wpAny_pure h⟩) room)
      | exact wpAny_bind (m := Builtin.Tuple.tupleExact _) (wpAny_newObj_type (wpAny_bind (wpAny_pure (wpAny_pure ⟨_, rfl, wpAny_pure h⟩))) room)
      | exact wpAny_bind (wpAny_bind (m := Builtin.Tuple.tupleExact _) (wpAny_newObj_type (wpAny_pure (wpAny_pure ⟨_, rfl, wpAny_pure h⟩)) room))
      | exact wpAny_bind (wpAny_bind (m := Builtin.Tuple.tupleExact _) (wpAny_newObj_type (wpAny_pure ⟨_, rfl, wpAny_pure h⟩) room))
end
end HT
namespace L2
open PySem PySem.Spec PyProof.Rows
theorem vals_at {xs : List V} {us : List Value} (r : Vals xs us) : ∀ i : Nat, (xs[i]? = none ∧ us[i]? = none) ∨ ∃ x u, xs[i]? = some x ∧ us[i]? = some u ∧ RelV x u := by
  induction r with
  | nil => intro i; exact .inl ⟨by simp, by simp⟩
  | cons h t ih =>
    intro i
    cases i with
    | zero => exact .inr ⟨_, _, rfl, rfl, h⟩
    | succ i =>
      rcases ih i with ⟨a, b⟩ | ⟨x, u, a, b, c⟩
      · exact .inl ⟨by simpa using a, by simpa using b⟩
      · exact .inr ⟨x, u, by simpa using a, by simpa using b, c⟩
theorem vals_step {xs : List V} {us : List Value} (r : Vals xs us) (f : Nat → Nat) : ∀ js : List Nat, Vals (js.filterMap fun j => xs[f j]?) (js.filterMap fun j => us[f j]?)
  | [] => .nil
  | j :: js => by
    rcases vals_at r (f j) with ⟨a, b⟩ | ⟨x, u, a, b, c⟩
    · rw [List.filterMap_cons_none (f := fun j => xs[f j]?) a, List.filterMap_cons_none (f := fun j => us[f j]?) b]
      exact vals_step r f js
    · rw [List.filterMap_cons_some (f := fun j => xs[f j]?) a, List.filterMap_cons_some (f := fun j => us[f j]?) b]
      exact .cons c (vals_step r f js)
section
variable {X : Cx}
/-- t[::k] -/
def tStepN (K : PySem.W.Frag) (te ts : TE) : TE := fun σ H Q => te σ H fun x H1 => ∃ a xs, x = .ref a ∧ SqT K H1 a xs ∧ ts σ H1 fun y H2 => ∃ k : Int, y = .int k ∧ 1 ≤ k ∧ Same H1 H2 ∧ ∀ (t : Addr) (ys : List V) (H3 : Hp), Same H2 H3 → SqT K H3 t ys → (∀ z ∈ ys, z ∈ xs) → ys.length ≤ xs.length → Q (.ref t) H3
theorem pe_stepN {e st : Expr} {te ts : TE} {p3 pos : Pos} (he : PE X e te) (hs : PE X st ts) : PE X (.Subscript e (.Slice none none (some st) p3) pos) (tStepN X.K te ts) := by
  refine ⟨fun pins s σ H Q I h => ?_⟩
  refine Subscript_ (thn (he.run pins s σ H _ I h) fun v s1 ⟨x, H1, I1, r1, a, xs, ex, hx, q⟩ => ?_)
  subst ex
  cases r1
  refine wpAny_Slice (thn (po_none.run pins s1 σ H1 (fun o H2 => o = none ∧ H2 = H1) I1 ⟨rfl, rfl⟩) fun vl s2 ⟨l, H2, I2, pl, el, e2⟩ => ?_)
  subst el e2
  refine thn (po_none.run pins s2 σ H2 (fun o H3 => o = none ∧ H3 = H2) I2 ⟨rfl, rfl⟩) fun vu s3 ⟨u, H3, I3, pu, eu, e3⟩ => ?_
  subst eu e3
  rw [evalPart_some]
  refine thn (hs.run pins s3 σ H3 _ I3 q) fun vs s4 ⟨y, H4, I4, r4, k, ey, hk, sm, q4⟩ => ?_
  subst ey
  obtain ⟨tk, rfl⟩ := r4
  have I5 : Inv X pins σ H4 { s4 with heap := s4.heap.push { cls := .type "slice", data := .fields #[vl, vu, .int k tk] } } := I4.kept (t' := s4.toks) fun b ob z => Heap.get?_push_of_some _ z
  obtain ⟨its, r, ht, hz⟩ := I5.tuple (sm.seqT hx)
  have hlen := r.length
  cases pl
  cases pu
  show wpAny (model X.prog X.w) X.A (subscriptTail e (.Slice none none (some st) p3) (.ref a) (.ref s4.heap.objs.size)) (EP X pins σ Q) X.xe _
  refine tail_any (ops := [.ref a, .ref s4.heap.objs.size]) ht.typeIs PyProof.Rows.slot_tuple_getitem.lookup ?_ (by with_unfolding_all rfl)
  have rv := vals_step r (fun (j : Nat) => ((0 : Int) + (j : Int) * k).toNat) (List.range (Builtin.Slice.slicePlaces 0 (xs.length : Int) k))
  have es : (List.range (Builtin.Slice.slicePlaces 0 (xs.length : Int) k)).filterMap (fun (j : Nat) => its[((0 : Int) + (j : Int) * k).toNat]?) = HT.stepOf its k := by
    unfold HT.stepOf
    rw [hlen]
  rw [es] at rv
  refine HT.getItem_tuple_step ht (Heap.IsSliceOf.new _ _ _ (.int k tk)) (.int k tk) hk ?_ ?_ (by omega)
  · exact ⟨.ref a, H4, I5, rfl, q4 a xs H4 (Same.refl H4) (sm.seqT hx) (fun _ h => h) (Nat.le_refl _)⟩
  · have lz : (HT.stepOf xs k).length ≤ sizeLine := Nat.le_trans (HT.stepOf_len hk) hz
    exact ⟨.ref _, _, I5.laid (t' := s4.toks) (fun b ob z => Heap.get?_push_of_some _ z) (Nat.le_refl _) (new_frz rv lz (Heap.get?_push_size _ rfl) _ _), rfl, q4 _ _ _ (Toy.same_new (I5.hok.fresh (Nat.le_refl _)) _) (.inl (.inr ⟨_, upd_same⟩)) (fun z h => HT.stepOf_mem h) (HT.stepOf_len hk)⟩
end
end L2
set_option Elab.async false
set_option linter.all false
set_option maxRecDepth 100000
set_option maxHeartbeats 1000000
namespace Toy
open PySem L2 PyProof.Rows
/-! ### weights of kinds, of books -/
theorem inV_of {w : Str} {ws : List Str} (h : inV (.str w) (ws.map V.str) = true) : w ∈ ws := by
  rw [inV_names, List.any_eq_true] at h
  obtain ⟨y, my, e⟩ := h
  rw [← of_decide_eq_true e]
  exact my
theorem w3_txt {w : Str} (h : w3 w = true) : txtOk w 8 := by
  have m : w ∈ L3 := inV_of (ws := L3) h
  have z : L3.all (fun x => PyData.strOk x && decide (x.length ≤ 8)) = true := by decide +kernel
  exact txt_lit (List.all_eq_true.mp z w m)
theorem w2_txt {w : Str} (h : w2 w = true) : txtOk w 8 := by
  have m : w ∈ L2w := inV_of (ws := L2w) h
  have z : L2w.all (fun x => PyData.strOk x && decide (x.length ≤ 8)) = true := by decide +kernel
  exact txt_lit (List.all_eq_true.mp z w m)
theorem gd_row0 {word : Str} {a b : PyData} {j w1 w2 k : Nat} (tw : txtOk word 8) (ga : Gd a j w1 k) (gb : Gd b j w2 k) : Gd (.tuple [.str word, a, b]) j (w1 + w2 + 11) (k + 1) := by
  have lw : word.cps.size ≤ 8 := tw.2
  refine ⟨?_, ?_, ?_⟩
  · show (gdB j (.str word) && (gdB j a && (gdB j b && true))) = true
    rw [(gd_str tw (j := j) (by omega)).g, ga.g, gb.g]
    rfl
  · have x := ga.w
    have y := gb.w
    simp only [PyData.weight, PyData.weightAll]
    omega
  · have x := ga.k
    have y := gb.k
    simp only [PyData.depth, PyData.depthAll]
    omega
theorem fB_w : ∀ {n : Nat} {d : PyData}, fB n d = true → txtB d = true → (∀ x ∈ (ms n d).2.2, x.length ≤ 26) → gdB 0 d = true ∧ 2 * (d.weight + 11) ≤ 43 * ((ms n d).2.1 + 1) ∧ d.depth ≤ n
  | 0, _, f, _, _ => nomatch f
  | n + 1, d, f, t, hx => by
    rcases fB_cases f with ⟨w, rfl, hw⟩ | ⟨w, x, rfl, hw, hn⟩ | ⟨n', w, a, b, en, rfl, hw, ha, hb⟩
    · have g := gd_word (j := 0) (w3_txt hw)
      rw [p_one]
      have := g.w
      exact ⟨g.g, by omega, Nat.le_trans g.k (by omega)⟩
    · obtain rfl := w1_eq hw
      have tt : (txtB (.str "name") && (txtB (.str x) && true)) = true := t
      simp only [Bool.and_eq_true] at tt
      have tx : (PyData.strOk x && decide (x.length ≤ 2000)) = true := tt.2.1
      rw [Bool.and_eq_true] at tx
      have lx : x.length ≤ 26 := hx x (show x ∈ [x] from List.mem_singleton.mpr rfl)
      have g := gd_name (j := 0) (m := 26) ⟨tx.1, lx⟩ (by omega)
      rw [p_leaf]
      have := g.w
      exact ⟨g.g, by omega, Nat.le_trans g.k (by omega)⟩
    · have en' : n = n' := by omega
      subst en'
      have tt : (txtB (.str w) && (txtB a && (txtB b && true))) = true := t
      simp only [Bool.and_eq_true] at tt
      rw [ms_row] at hx
      obtain ⟨a1, a2, a3⟩ := fB_w ha tt.2.1 (fun x m => hx x (List.mem_append.mpr (.inl m)))
      obtain ⟨b1, b2, b3⟩ := fB_w hb tt.2.2.1 (fun x m => hx x (List.mem_append.mpr (.inr m)))
      have g := gd_row0 (w2_txt hw) (j := 0) (a := a) (b := b) (w1 := a.weight) (w2 := b.weight) (k := n) ⟨a1, Nat.le_refl _, a3⟩ ⟨b1, Nat.le_refl _, b3⟩
      rw [ms_row, two_parts]
      have := g.w
      exact ⟨g.g, by omega, g.k⟩
def sumN (f : PyData → Nat) (l : List PyData) : Nat := (l.map f).sum
theorem sumN_cons (f : PyData → Nat) (x : PyData) (l : List PyData) : sumN f (x :: l) = f x + sumN f l := by
  unfold sumN
  rw [List.map_cons, List.sum_cons]
theorem sumN_app (f : PyData → Nat) : ∀ a b : List PyData, sumN f (a ++ b) = sumN f a + sumN f b
  | [], b => by show sumN f b = 0 + sumN f b; omega
  | x :: a, b => by rw [List.cons_append, sumN_cons, sumN_cons, sumN_app f a b]; omega
theorem sumN_map (f : PyData → Nat) (g : PyData → PyData) : ∀ l : List PyData, sumN f (l.map g) = sumN (fun x => f (g x)) l
  | [] => rfl
  | x :: l => by rw [List.map_cons, sumN_cons, sumN_cons, sumN_map f g l]
theorem sumN_mono {f g : PyData → Nat} : ∀ {l : List PyData}, (∀ x ∈ l, f x ≤ g x) → sumN f l ≤ sumN g l
  | [], _ => Nat.le_refl _
  | x :: l, h => by
    rw [sumN_cons, sumN_cons]
    have := h x List.mem_cons_self
    have := sumN_mono (l := l) fun y m => h y (List.mem_cons_of_mem _ m)
    omega
theorem sumN_le {f : PyData → Nat} {c : Nat} : ∀ {l : List PyData}, (∀ x ∈ l, f x ≤ c) → sumN f l ≤ c * l.length
  | [], _ => Nat.zero_le _
  | x :: l, h => by
    rw [sumN_cons, List.length_cons, Nat.mul_succ]
    have := h x List.mem_cons_self
    have := sumN_le (l := l) fun y m => h y (List.mem_cons_of_mem _ m)
    omega
theorem sumN_sub {f : PyData → Nat} : ∀ {l M : List PyData}, l.Nodup → (∀ x ∈ l, x ∈ M) → sumN f l ≤ sumN f M
  | [], _, _, _ => Nat.zero_le _
  | x :: l, M, nd, h => by
    obtain ⟨A, B, e⟩ := List.append_of_mem (h x List.mem_cons_self)
    obtain ⟨n1, n2⟩ := List.nodup_cons.mp nd
    have ih := sumN_sub (f := f) (l := l) (M := A ++ B) n2 fun y m => by
      have z := h y (List.mem_cons_of_mem _ m)
      rw [e] at z
      rcases List.mem_append.mp z with z | z
      · exact List.mem_append.mpr (.inl z)
      · rcases List.mem_cons.mp z with rfl | z
        · exact absurd m n1
        · exact List.mem_append.mpr (.inr z)
    rw [e, sumN_app, sumN_cons, sumN_cons]
    rw [sumN_app] at ih
    omega
/-- all parts of a book's kinds, and of what holes make of them -/
def TotL : Nat → List PyData → Prop
  | 0, ds => sumN (fun r => (ms 30 (rowK r)).2.1) ds ≤ 124 ∧ sumN (fun r => bF 30 (rowK r)) ds ≤ 764 ∧ sumN (fun r => cF 5 (rowK r)) ds ≤ 4604
  | 1, ds => sumN (fun r => (ms 30 (rowK r)).2.1) ds ≤ 888 ∧ sumN (fun r => bF 30 (rowK r)) ds ≤ 5368
  | _ + 2, ds => sumN (fun r => (ms 30 (rowK r)).2.1) ds ≤ 6256
theorem TotL.all {j : Nat} {ds : List PyData} (h : TotL j ds) : sumN (fun r => (ms 30 (rowK r)).2.1) ds ≤ 6256 := by
  rcases j with _ | _ | j
  · have := h.1
    omega
  · have := h.1
    omega
  · exact h
theorem bookD_tot {ns : List Str} {ds : List PyData} (b : BookD ns ds) : TotL 0 ds := by
  have len : ds.length ≤ 4 := by
    have := b.few
    rw [← b.names, List.length_map] at this
    exact this
  have key : ∀ r ∈ ds, (ms 30 (rowK r)).2.1 ≤ 31 ∧ bF 30 (rowK r) ≤ 191 ∧ cF 5 (rowK r) ≤ 1151 := fun r m => by
    obtain ⟨y, k, rfl, _, _, t, _⟩ := b.rows r m
    have a := kt_nums t (m := 30) (by decide)
    have c := kt_nums t (m := 5) (by decide)
    rw [nums_five] at a c
    exact ⟨a.1, a.2.1, c.2.2⟩
  have x := sumN_le (f := fun r => (ms 30 (rowK r)).2.1) (c := 31) (l := ds) fun r m => (key r m).1
  have y := sumN_le (f := fun r => bF 30 (rowK r)) (c := 191) (l := ds) fun r m => (key r m).2.1
  have z := sumN_le (f := fun r => cF 5 (rowK r)) (c := 1151) (l := ds) fun r m => (key r m).2.2
  exact ⟨by omega, by omega, by omega⟩
def byRow (h : Ho) (r : PyData) : PyData := .tuple [.str (calD (rowN r) h), kmd 30 (rowK r) h]
theorem look_row {ds : List PyData} (hr : RowsP ds) {x : Str} {v : PyData} (l : lookB (bkOf (.tuple ds)) x = some v) : PyData.tuple [.str x, v] ∈ ds := by
  obtain ⟨p, mp, e1, e2⟩ := look_mem l
  obtain ⟨e, me, ee⟩ := List.mem_map.mp (show p ∈ ds.map (fun r => (rowN r, rowK r)) from mp)
  obtain ⟨y, k, rfl⟩ := hr e me
  subst ee
  have e1' : y = x := e1
  have e2' : k = v := e2
  rw [← e1', ← e2']
  exact me
theorem tot_by {j : Nat} {ds ds' : List PyData} {h : Ho} (b : BookL j ds) (t : TotL j ds) (hj : j ≤ 1) (bh : ByH ds ds' h) : TotL (j + 1) ds' := by
  have hr : RowsP ds := fun r m => by
    obtain ⟨y, k, e, _⟩ := b.rows r m
    exact ⟨y, k, e⟩
  have nd : ds'.Nodup := (show ds'.Pairwise (fun a b => a ≠ b) from bh.up.imp fun z e => less_ne z (congrArg rowN e))
  have sub : ∀ r ∈ ds', r ∈ ds ++ ds.map (byRow h) := fun r m => by
    obtain ⟨x, v, rfl, c⟩ := bh.rows r m
    rcases c with l | ⟨y, k, l, rfl, rfl⟩
    · exact List.mem_append.mpr (.inl (look_row hr l))
    · exact List.mem_append.mpr (.inr (List.mem_map.mpr ⟨_, look_row hr l, rfl⟩))
  have s1 := sumN_sub (f := fun r => (ms 30 (rowK r)).2.1) nd sub
  rw [sumN_app, sumN_map] at s1
  have m1 : sumN (fun r => (ms 30 (rowK (byRow h r))).2.1) ds ≤ sumN (fun r => bF 30 (rowK r)) ds := sumN_mono fun r m => by
    obtain ⟨y, k, rfl, _, lv, _⟩ := b.rows r m
    have f : ∃ n, n ≤ 10 ∧ fB n k = true := by
      rcases j with _ | _ | j
      · exact ⟨5, by decide, lv.1⟩
      · exact ⟨10, by decide, lv.1⟩
      · omega
    obtain ⟨n, hn, f⟩ := f
    show (ms 30 (kmd 30 k h)).2.1 ≤ bF 30 k
    rw [kmd_fuel f (by omega), bF_fuel f (by omega)]
    exact b_le f (by omega)
  rcases j with _ | _ | j
  · obtain ⟨t1, t2, t3⟩ := t
    have s2 := sumN_sub (f := fun r => bF 30 (rowK r)) nd sub
    rw [sumN_app, sumN_map] at s2
    have m2 : sumN (fun r => bF 30 (rowK (byRow h r))) ds ≤ sumN (fun r => cF 5 (rowK r)) ds := sumN_mono fun r m => by
      obtain ⟨y, k, rfl, _, lv, _⟩ := b.rows r m
      show bF 30 (kmd 30 k h) ≤ cF 5 k
      rw [kmd_fuel lv.1 (by omega)]
      exact c_le lv.1 (by omega)
    exact ⟨by omega, by omega⟩
  · obtain ⟨t1, t2⟩ := t
    show _ ≤ 6256
    omega
  · omega
/-- what is known of a row of such a book -/
theorem row_gd {j : Nat} {ds : List PyData} (b : BookL j ds) (hj : j ≤ 2) {r : PyData} (m : r ∈ ds) : ∃ y k, r = .tuple [.str y, k] ∧ txtOk y 26 ∧ gdB 0 k = true ∧ k.depth ≤ 20 ∧ 2 * (k.weight + 11) ≤ 43 * ((ms 30 k).2.1 + 1) ∧ (ms 30 k).2.1 ≤ 1151 := by
  obtain ⟨y, k, rfl, ty, lv, tx⟩ := b.rows r m
  obtain ⟨n, hn, f, p⟩ := lv.form
  have kn := (tb_rows (b.tb 30 (by decide)) _ m)
  obtain ⟨y', k', e, _, kn, _⟩ := kn
  injection e with e
  injection e with e1 e
  injection e1 with e1
  injection e with e2
  subst e1 e2
  have nm : ∀ x ∈ (ms n k).2.2, x.length ≤ 26 := fun x hx => by
    unfold knB at kn
    rw [Bool.and_eq_true, ms_fuel f (by omega : n ≤ 30), List.all_eq_true] at kn
    have s := kn.2 x hx
    obtain ⟨v, hv⟩ := Option.isSome_iff_exists.mp s
    have hr : RowsP ds := fun r m => by
      obtain ⟨y, k, e, _⟩ := b.rows r m
      exact ⟨y, k, e⟩
    obtain ⟨y2, k2, e, t2, _⟩ := b.rows _ (look_row hr hv)
    injection e with e
    injection e with e1 e
    injection e1 with e1
    subst e1
    have := t2.2
    omega
  obtain ⟨a1, a2, a3⟩ := fB_w f tx nm
  refine ⟨y, k, rfl, txt_up ty (by omega), a1, by omega, ?_, ?_⟩
  · rw [ms_fuel f (by omega : n ≤ 30)]
    exact a2
  · rw [ms_fuel f (by omega : n ≤ 30)]
    exact p
theorem rows_w {l : List PyData} (h : ∀ r ∈ l, ∃ y k, r = .tuple [.str y, k] ∧ txtOk y 26 ∧ 2 * (k.weight + 11) ≤ 43 * ((ms 30 k).2.1 + 1)) : 2 * PyData.weightAll l ≤ 43 * sumN (fun r => (ms 30 (rowK r)).2.1) l + 79 * l.length := by
  induction l with
  | nil => simp only [PyData.weightAll]; exact Nat.zero_le _
  | cons r l ih =>
    obtain ⟨y, k, rfl, ty, hw⟩ := h r List.mem_cons_self
    have i := ih fun x m => h x (List.mem_cons_of_mem _ m)
    have ly : y.cps.size ≤ 26 := ty.2
    rw [sumN_cons]
    have ek : rowK (.tuple [.str y, k]) = k := rfl
    rw [ek]
    simp only [PyData.weightAll, PyData.weight, List.length_cons]
    omega
theorem row_gdG {y : Str} {k : PyData} {n w d j : Nat} (ty : txtOk y n) (hn : n ≤ 100 + j) (g : Gd k j w d) : Gd (.tuple [.str y, k]) j (n + w + 2) (d + 1) := by
  have ly : y.cps.size ≤ n := ty.2
  refine ⟨?_, ?_, ?_⟩
  · show (gdB j (.str y) && (gdB j k && true)) = true
    rw [(gd_str ty (j := j) hn).g, g.g]
    rfl
  · have := g.w
    simp only [PyData.weight, PyData.weightAll]
    omega
  · have := g.k
    simp only [PyData.depth, PyData.depthAll]
    omega
theorem book_gd {j : Nat} {ds : List PyData} (b : BookL j ds) (hj : j ≤ 2) (t : TotL j ds) : Gd (.tuple ds) 0 136000 22 ∧ (∀ r ∈ ds, Gd r 0 24785 21) := by
  have lf : ds.length ≤ 16 := by
    have := b.few
    have : 2 ^ j ≤ 2 ^ 2 := Nat.pow_le_pow_right (by decide) hj
    omega
  have rw_ := rows_w (l := ds) fun r m => by
    obtain ⟨y, k, e, ty, _, _, hw, _⟩ := row_gd b hj m
    exact ⟨y, k, e, ty, hw⟩
  have ta := t.all
  have rg : ∀ r ∈ ds, Gd r 0 24785 21 := fun r m => by
    obtain ⟨y, k, rfl, ty, g, dd, hw, hp⟩ := row_gd b hj m
    have z := row_gdG (j := 0) (w := 24757) ty (by omega) ⟨g, by omega, dd⟩
    exact z.up (Nat.le_refl 0) (by omega) (by omega)
  refine ⟨gd_tuple (fun r m => ⟨(rg r m).g, ?_⟩) (by omega) (by omega), rg⟩
  have := (rg r m).k
  omega
end Toy
set_option Elab.async false
set_option linter.all false
set_option maxRecDepth 100000
set_option maxHeartbeats 2000000
namespace Toy
open PySem L2 PyProof.Rows
theorem nodup_len {α : Type} [DecidableEq α] : ∀ {l M : List α}, l.Nodup → (∀ x ∈ l, x ∈ M) → l.length ≤ M.length
  | [], _, _, _ => Nat.zero_le _
  | x :: l, M, n, s => by
    obtain ⟨n1, n2⟩ := List.nodup_cons.mp n
    have mx := s x List.mem_cons_self
    have le := nodup_len (M := M.erase x) n2 fun y m => (List.mem_erase_of_ne (fun e => n1 (by rw [← e]; exact m))).mpr (s y (List.mem_cons_of_mem _ m))
    rw [List.length_erase_of_mem mx] at le
    have : 1 ≤ M.length := List.length_pos_of_mem mx
    rw [List.length_cons]
    omega
theorem joinSIH {S : Str → Int → Hp → Prop} {N : Str → Int → Hp → Prop} {Z : Prop} (h : ∀ x m H, S x m H → N x m H) (k : (∀ x m H, S x m H → N x m H) → Z) : Z := k h
theorem joinIH {S : Int → Hp → Prop} {N : Int → Hp → Prop} {Z : Prop} (h : ∀ m H, S m H → N m H) (k : (∀ m H, S m H → N m H) → Z) : Z := k h
theorem joinB {A Z : Prop} (h : A) (k : A → Z) : Z := k h
theorem joinJ {S : Hp → Prop} {N : Hp → Prop} {Z : Prop} (h : ∀ H, S H → N H) (k : (∀ H, S H → N H) → Z) : Z := k h
theorem joinVH {S : V → Hp → Prop} {N : V → Hp → Prop} {Z : Prop} (h : ∀ v H, S v H → N v H) (k : (∀ v H, S v H → N v H) → Z) : Z := k h
theorem joinPH {S : Addr → Hp → Prop} {N : Addr → Hp → Prop} {Z : Prop} (h : ∀ v H, S v H → N v H) (k : (∀ v H, S v H → N v H) → Z) : Z := k h
theorem joinVIH {S : V → V → Int → Hp → Prop} {N : V → V → Int → Hp → Prop} {Z : Prop} (h : ∀ v u i H, S v u i H → N v u i H) (k : (∀ v u i H, S v u i H → N v u i H) → Z) : Z := k h
theorem joinSt {S : L2.St → Hp → Prop} {N : L2.St → Hp → Prop} {Z : Prop} (h : ∀ σ H, S σ H → N σ H) (k : (∀ σ H, S σ H → N σ H) → Z) : Z := k h
end Toy
set_option Elab.async false
set_option linter.all false
set_option maxRecDepth 100000
set_option maxHeartbeats 2000000
namespace Toy
open PySem L2 PyProof.Rows
abbrev sChkK : Stmt := top 33
abbrev sTabFor : Stmt := top 45
/-! ### what is asked of arguments, where all is right -/
def spCk (K : PySem.W.Frag) (m : Nat) : Sp := fun vs H Q _ => ∃ (t : Addr) (v : V) (d : PyData) (bk : List (Str × PyData)), vs = [.ref t, v] ∧ Tab K H t bk ∧ Dq K H v d ∧ txtB d = true ∧ d.depth ≤ m ∧ knB m bk d = true ∧ ∀ H', Same H H' → Q .non H'
def spCh (K : PySem.W.Frag) (m : Nat) : Sp := fun vs H Q _ => ∃ (t : Addr) (v : V) (d : PyData) (bk : List (Str × PyData)), vs = [.ref t, v] ∧ Tab K H t bk ∧ Dq K H v d ∧ txtB d = true ∧ d.depth ≤ m ∧ khB m bk d = true ∧ ∀ H', Same H H' → Q .non H'
def KindAt (K : PySem.W.Frag) (m : Nat) (H : Hp) (u : V) (d e : PyData) : Prop := Dq K H u e ∧ txtB e = true ∧ e.depth ≤ m ∧ knB m (bkOf d) e = true
def HoleAt (K : PySem.W.Frag) (m : Nat) (H : Hp) (x : V) (d : PyData) (h : Ho) : Prop := Dq K H x (hoD h) ∧ hoOk h ∧ txtB (hoD h) = true ∧ khB m (bkOf d) (hoD h) = true
def spTf (K : PySem.W.Frag) (m : Nat) : Sp := fun vs H Q _ => ∃ (v u : V) (d e : PyData), vs = [v, u] ∧ BookAt K m H v d ∧ KindAt K m H u d e ∧ ∀ t H', Same H H' → Tab K H' t (bkOf d) → Q (.ref t) H'
def spTh (K : PySem.W.Frag) (m : Nat) : Sp := fun vs H Q _ => ∃ (v u x : V) (d e : PyData) (h : Ho), vs = [v, u, x] ∧ BookAt K m H v d ∧ KindAt K m H u d e ∧ HoleAt K m H x d h ∧ ∀ t H', Same H H' → Tab K H' t (bkOf d) → Q (.ref t) H'
def spKb (K : PySem.W.Frag) (m : Nat) : Sp := fun vs H Q _ => ∃ (v u x : V) (d e : PyData) (h : Ho), vs = [v, u, x] ∧ BookAt K m H v d ∧ KindAt K m H u d e ∧ HoleAt K m H x d h ∧ fB 30 e = true ∧ e.depth ≤ 60 ∧ ∀ v' H', Same H H' → Dq K H' v' (kmd 30 e h) → Q v' H'
theorem hoD_two (h : Ho) : (hoD h).depth ≤ 2 := by
  cases h <;> simp only [hoD, PyData.depth, PyData.depthAll] <;> omega
section
variable {P : Program} {w : World} {K : PySem.W.Frag} {mg : Str → Option Value} {base : Heap} {m : Nat} {C : Addr}
theorem KindAt.on {H H' : Hp} {v : V} {d e : PyData} (s : Same H H') (b : KindAt K m H v d e) : KindAt K m H' v d e := ⟨Dq.mono s _ _ b.1, b.2.1, b.2.2.1, b.2.2.2⟩
theorem HoleAt.on {H H' : Hp} {v : V} {d : PyData} {h : Ho} (s : Same H H') (b : HoleAt K m H v d h) : HoleAt K m H' v d h := ⟨Dq.mono s _ _ b.1, b.2.1, b.2.2.1, b.2.2.2⟩
theorem scCk : FnScope ["table", "kind"] ["table", "kind"] (defScope sChkK) := ⟨rfl, rfl, rfl, by decide +kernel, rfl, by decide +kernel, by decide +kernel⟩
theorem scTf : FnScope ["book", "kind", "table"] ["book", "kind"] (defScope sTabFor) := ⟨rfl, rfl, rfl, by decide +kernel, rfl, by decide +kernel, by decide +kernel⟩
theorem ok_checkkind {f gK : Addr} {fd dK : FuncData} (F : Fun K "check_kind" "check_kind" sChkK f fd) (KN : Gv P w K mg base 5 "is_known" gK dK ["table", "value"] (spKn K m)) : FnOk P w K mg base CX0 6 f fd ["table", "kind"] (spCk K m) := by
  refine F.ok scCk (fun vs H Q E h => ?_) (fun cdv A outer s H vs Q E hr h => ?_)
  · obtain ⟨t, v, d, bk, rfl, _⟩ := h
    rfl
  obtain ⟨t, v, d, bk, rfl, tb, hd, tx, dp, ok, q⟩ := h
  refine ⟨_, (pss_one (ps_if (pt_not (pt_val (pe_call KN.ok hr rfl KN.m KN.k KN.b .nil pass0 (pa_cons (pv 0) (pa_cons (pv 1) pa_nil))))) (pss_one ps_never) pss_nil)), ?_⟩
  refine ⟨_, rfl, _, rfl, t, v, d, bk, rfl, tb, hd, tx, dp, fun H1 s1 => ⟨_, rfl, ?_⟩⟩
  rw [ok]
  exact iteF (q H1 s1)
theorem ok_tablefor {f gT gK : Addr} {fd dT dK : FuncData} (F : Fun K "table_for" "table_for" sTabFor f fd) (TO : GvX P w K mg base 64 "table_of" gT dT ["book"] (spTo K m C)) (CK : Gv P w K mg base 6 "check_kind" gK dK ["table", "kind"] (spCk K m)) : FnOk P w K mg base CX0 65 f fd ["book", "kind"] (spTf K m) := by
  refine F.ok scTf (fun vs H Q E h => ?_) (fun cdv A outer s H vs Q E hr h => ?_)
  · obtain ⟨v, u, d, e, rfl, _⟩ := h
    rfl
  obtain ⟨v, u, d, e, rfl, ⟨hd, tp, ht, hdp, ok⟩, hk, q⟩ := h
  have hr6 : Room 6 (A.deeper _) := hr.mono (by omega)
  refine ⟨_, (pss_cons (ps_set (i := 2) scTf.nd rfl (.inl rfl) (pe_call TO.ok hr rfl TO.m TO.k TO.b .nil passL (pa_cons (pv 0) pa_nil)))
    (pss_cons (ps_expr (pe_call CK.ok hr6 rfl CK.m CK.k CK.b .nil pass0 (pa_cons (pv 2) (pa_cons (pv 1) pa_nil))))
    (pss_one (ps_ret (pv 2))))), ?_⟩
  refine ⟨_, rfl, v, d, rfl, hd, tp, ht, hdp, fun _ t H1 s1 tb => ?_, fun e => by rw [ok] at e; cases e⟩
  obtain ⟨h1, h2, h3, h4⟩ := hk.on s1
  refine ⟨_, rfl, _, rfl, t, u, e, bkOf d, rfl, tb, h1, h2, h3, h4, fun H2 s2 => ?_⟩
  exact ⟨_, rfl, q t H2 (s1.trans s2) (tb.on s2)⟩
end
end Toy
set_option Elab.async false
set_option linter.all false
set_option maxRecDepth 100000
set_option maxHeartbeats 2000000
/-! ### xs.extend(a tuple); while, by a word with a number; tuples that stay -/
namespace L2
open PySem PySem.Spec PyProof.Rows
/-- a tuple as it is made -/
def SqX (H : Hp) (a : Addr) (xs : List V) : Prop := ∃ o, H a = some (.frz o (.tup xs)) ∧ o.dict = none ∧ o.slots = #[]
theorem SqX.plain {K : PySem.W.Frag} {H : Hp} {a : Addr} {xs : List V} (h : SqX H a xs) : SqP K H a xs := by
  obtain ⟨o, e, d, _⟩ := h
  exact .of e d
theorem SqX.seqT {K : PySem.W.Frag} {H : Hp} {a : Addr} {xs : List V} (h : SqX H a xs) : SqT K H a xs := h.plain.seqT
section
variable {X : Cx}
def tTupX (t : TA) : TE := fun σ H Q => t σ H fun xs H1 => xs.length ≤ sizeLine ∧ ∀ p o, H1 p = none → o.dict = none → o.slots = #[] → Q (.ref p) (upd H1 p (.frz o (.tup xs)))
theorem pe_tupX {es : List Expr} {t : TA} {pos : Pos} {x1} (h : PA X es t) : PE X (.Tuple es x1 pos) (tTupX t) := by
  refine ⟨fun pins s σ H Q I hq => ?_⟩
  refine wpAny_Tuple_spliced (thn (h.run pos pins s σ H _ I hq) fun us s1 ⟨xs, H1, I1, r, z, q⟩ => ⟨by rw [← r.length]; exact z, ?_⟩)
  have hf : H1 s1.heap.objs.size = none := I1.hok.fresh (Nat.le_refl _)
  exact ⟨.ref s1.heap.objs.size, _, I1.laid (t' := s1.toks) (fun b u e => Heap.get?_push_of_some _ e) (Nat.le_refl _) (new_frz r z (Heap.get?_push_size _ rfl) _ _), rfl, q _ _ hf rfl rfl⟩
def rExtT : V → List V → Hp → VK → Prop := fun x vs H Q => ∃ l b xs zs, x = .ref l ∧ vs = [.ref b] ∧ H l = some (.lst xs) ∧ SqX H b zs ∧ xs.length + zs.length ≤ sizeLine ∧ Q .non (upd H l (.lst (xs ++ zs)))
theorem mt_extendT : MtM X "list.extend" rExtT := by
  intro pins s σ H x vs v us Q I rx rv h
  obtain ⟨l, b, xs, zs, rfl, rfl, hH, ⟨ob, hB, hd, hs⟩, hz, q⟩ := h
  cases rx
  obtain ⟨u, rfl, ru⟩ := rv.one
  cases ru
  obtain ⟨z, its, n, r, hl, e⟩ := I.lstM hH
  obtain ⟨g, hz2, its2, rv2, o', g', c, n2, dt⟩ := I.hok b _ hB
  have eo : ob = o' := Option.some.inj (g.symm.trans g')
  subst eo
  have e2 : s.heap.get? b = some { cls := .type "tuple", dict := none, data := .seq its2.toArray n2, slots := #[] } := by
    rw [g]
    cases ob
    dsimp only at c hd hs dt
    subst c hd hs dt
    rfl
  have hl2 := rv2.length
  have hsz : its.toArray.size + its2.toArray.size ≤ sizeLine := by rw [List.size_toArray, List.size_toArray]; omega
  have hlong : ¬ (!its.toArray.isEmpty && Builtin.List.listTooLong (its.toArray.size + its2.toArray.size)) = true := by
    rw [notLongL hsz, Bool.and_false]
    exact Bool.false_ne_true
  refine call_meets F.slot_list_extend ⟨_, e, rfl⟩ F.entry_list_extend (F.args_list_extend_2 _ _)
    (AutoSeq1.list_extend_list_tuple_0 l its.toArray n b its2.toArray n2 hlong (by rw [List.size_toArray]; omega) (by omega)) ⟨e, e2, ?_⟩
  refine ⟨.non, _, I.lset (its' := its ++ its2) hH e (by simp) (r.append rv2) ?_, rfl, q⟩
  rw [List.length_append]
  omega
end
/-- while, by a word that bears a number -/
theorem while_ix {c : TT} {tb : TS} {D : Ends} {σ : St} {H : Hp} (Pv : Nat → St → Hp → Prop) (m0 : Nat) (h0 : Pv m0 σ H)
    (hs : ∀ m σ H, Pv m σ H → c σ H fun b H1 => if b = true then tb { D with nx := fun σ' H' => ∃ m', m' < m ∧ Pv m' σ' H', ct := fun σ' H' => ∃ m', m' < m ∧ Pv m' σ' H', bk := D.nx } σ H1 else D.nx σ H1)
    (mono : ∀ σ H Q Q', (∀ b H1, Q b H1 → Q' b H1) → c σ H Q → c σ H Q') : tWhile c tb D σ H := by
  refine ⟨Pv, ⟨m0, h0⟩, fun m σ H p => ?_⟩
  refine mono σ H _ _ (fun b H1 q => ?_) (hs m σ H p)
  cases b with
  | true => exact ⟨_, fun σ' H' z => z, q⟩
  | false => exact q
end L2
namespace Toy
open PySem L2 PyProof.Rows
/-! ### texts, ints and tuples of such: they stay where the tuples stay -/
mutual
def plB : PyData → Bool
  | .str x => PyData.strOk x
  | .int _ => true
  | .tuple ds => plA ds
  | _ => false
def plA : List PyData → Bool
  | [] => true
  | d :: ds => plB d && plA ds
end
mutual
theorem st_pl : ∀ d : PyData, stB d = true → plB d = true
  | .str x, h => h
  | .tuple ds, h => stA_pl ds h
  | .none, h => nomatch h
  | .bool _, h => nomatch h
  | .int _, h => nomatch h
  | .list _, h => nomatch h
  | .dict _, h => nomatch h
theorem stA_pl : ∀ ds : List PyData, stA ds = true → plA ds = true
  | [], _ => rfl
  | d :: ds, h => by
    have h' : (stB d && stA ds) = true := h
    rw [Bool.and_eq_true] at h'
    show (plB d && plA ds) = true
    rw [st_pl d h'.1, stA_pl ds h'.2]
    rfl
end
/-- what was a tuple stays one -/
structure TS (H H' : Hp) : Prop where
  t : ∀ a xs, H a = some (.tup xs) → H' a = some (.tup xs)
  f : ∀ a o xs, H a = some (.frz o (.tup xs)) → H' a = some (.frz o (.tup xs))
theorem TS.refl (H : Hp) : TS H H := ⟨fun _ _ h => h, fun _ _ _ h => h⟩
theorem TS.trans {H H1 H2 : Hp} (a : TS H H1) (b : TS H1 H2) : TS H H2 := ⟨fun x y h => b.t x y (a.t x y h), fun x o y h => b.f x o y (a.f x o y h)⟩
theorem TS.same {H H' : Hp} (e : Same H H') : TS H H' := ⟨fun a xs h => e _ _ h, fun a o xs h => e _ _ h⟩
theorem TS.lst {H : Hp} {l : Addr} {ws : List V} (h : H l = some (.lst ws)) (zs : List V) : TS H (upd H l (.lst zs)) :=
  ⟨fun a xs e => by rw [upd_ne (fun z => by rw [z, h] at e; cases e)]; exact e, fun a o xs e => by rw [upd_ne (fun z => by rw [z, h] at e; cases e)]; exact e⟩
theorem TS.new {H : Hp} {p : Addr} (h : H p = none) (o : HO) : TS H (upd H p o) := .same (same_new h o)
theorem TS.but {wl : Addr} {H H' : Hp} (w : WellAt H wl) (e : But wl H H') : TS H H' := by
  obtain ⟨a, b, c, hw⟩ := w
  exact ⟨fun x xs h => e x _ (fun z => by rw [z, hw] at h; cases h) h, fun x o xs h => e x _ (fun z => by rw [z, hw] at h; cases h) h⟩
mutual
theorem Dq.ts {K : PySem.W.Frag} {H H' : Hp} (e : TS H H') : ∀ (d : PyData) (v : V), plB d = true → Dq K H v d → Dq K H' v d
  | .str x, _, _, .str _ => .str x
  | .int i, _, _, .int _ => .int i
  | .tuple ds, _, h, .tup q A => .tup (by
      rcases q with ⟨o, q, d⟩ | q
      · exact .inl ⟨o, e.f _ _ _ q, d⟩
      · exact .inr q) (DqAll.ts e ds _ h A)
  | .none, _, h, _ => nomatch h
  | .bool _, _, h, _ => nomatch h
  | .list _, _, h, _ => nomatch h
  | .dict _, _, h, _ => nomatch h
theorem DqAll.ts {K : PySem.W.Frag} {H H' : Hp} (e : TS H H') : ∀ (ds : List PyData) (vs : List V), plA ds = true → DqAll K H vs ds → DqAll K H' vs ds
  | [], _, _, .nil => .nil
  | d :: ds, _, h, .cons p r => by
    have h' : (plB d && plA ds) = true := h
    rw [Bool.and_eq_true] at h'
    exact .cons (Dq.ts e d _ h'.1 p) (DqAll.ts e ds _ h'.2 r)
end
theorem TS.sqX {H H' : Hp} (e : TS H H') {a : Addr} {xs : List V} (h : SqX H a xs) : SqX H' a xs := by
  obtain ⟨o, q, r⟩ := h
  exact ⟨o, e.f _ _ _ q, r⟩
theorem TS.seqT {K : PySem.W.Frag} {H H' : Hp} (e : TS H H') {a : Addr} {xs : List V} (h : SqT K H a xs) : SqT K H' a xs := by
  rcases h with (h | ⟨o, h⟩) | h
  · exact .inl (.inl (e.t _ _ h))
  · exact .inl (.inr ⟨o, e.f _ _ _ h⟩)
  · exact .inr h
theorem plA_iff {ds : List PyData} : plA ds = true ↔ ∀ d ∈ ds, plB d = true := by
  induction ds with
  | nil => exact ⟨(fun _ _ m => nomatch m), fun _ => rfl⟩
  | cons d ds ih =>
    show (plB d && plA ds) = true ↔ _
    rw [Bool.and_eq_true, ih]
    refine ⟨fun ⟨a, b⟩ x m => ?_, fun h => ⟨h d List.mem_cons_self, fun x m => h x (List.mem_cons_of_mem _ m)⟩⟩
    rcases List.mem_cons.mp m with rfl | m
    · exact a
    · exact b x m
end Toy
set_option Elab.async false
set_option linter.all false
set_option maxRecDepth 100000
set_option maxHeartbeats 2000000
namespace Toy
open PySem L2 PyProof.Rows
/-! ### values of a kind, names unfolded -/
abbrev kThing : PyData := .tuple [.str "thing"]
abbrev kUnit : PyData := .tuple [.str "unit"]
abbrev kName (x : Str) : PyData := .tuple [.str "name", .str x]
abbrev kPair (a b : PyData) : PyData := .tuple [.str "pair", a, b]
abbrev kEith (a b : PyData) : PyData := .tuple [.str "either", a, b]
abbrev vPair (u v : PyData) : PyData := .tuple [.str "pair", u, v]
abbrev vLeft (u : PyData) : PyData := .tuple [.str "left", u]
abbrev vRight (u : PyData) : PyData := .tuple [.str "right", u]
/-- n bears the number of parts, each name one more -/
inductive Val (L : PyData → Prop) (bk : List (Str × PyData)) : Nat → PyData → PyData → Prop
  | thing {n : Nat} {d : PyData} : L d → Val L bk (n + 1) kThing d
  | unit {n : Nat} : Val L bk (n + 1) kUnit (.tuple [])
  | name {n : Nat} {x : Str} {k v : PyData} : lookB bk x = some k → Val L bk n k v → Val L bk (n + 1) (kName x) v
  | pair {n m p : Nat} {a b u v : PyData} : Val L bk m a u → Val L bk p b v → m + p + 1 ≤ n → Val L bk n (kPair a b) (vPair u v)
  | left {n : Nat} {a b u : PyData} : Val L bk n a u → Val L bk (n + 1) (kEith a b) (vLeft u)
  | right {n : Nat} {a b u : PyData} : Val L bk n b u → Val L bk (n + 1) (kEith a b) (vRight u)
theorem Val.up {L : PyData → Prop} {bk : List (Str × PyData)} {n : Nat} {k v : PyData} (h : Val L bk n k v) : ∀ {m : Nat}, n ≤ m → Val L bk m k v := by
  induction h with
  | thing l =>
    intro m hm
    obtain ⟨m, rfl⟩ : ∃ z, m = z + 1 := ⟨m - 1, by omega⟩
    exact .thing l
  | unit =>
    intro m hm
    obtain ⟨m, rfl⟩ : ∃ z, m = z + 1 := ⟨m - 1, by omega⟩
    exact .unit
  | name l _ ih =>
    intro m hm
    obtain ⟨m, rfl⟩ : ∃ z, m = z + 1 := ⟨m - 1, by omega⟩
    exact .name l (ih (by omega))
  | pair a b le _ _ =>
    intro m hm
    exact .pair a b (by omega)
  | left _ ih =>
    intro m hm
    obtain ⟨m, rfl⟩ : ∃ z, m = z + 1 := ⟨m - 1, by omega⟩
    exact .left (ih (by omega))
  | right _ ih =>
    intro m hm
    obtain ⟨m, rfl⟩ : ∃ z, m = z + 1 := ⟨m - 1, by omega⟩
    exact .right (ih (by omega))
theorem Val.pos {L : PyData → Prop} {bk : List (Str × PyData)} {n : Nat} {k v : PyData} (h : Val L bk n k v) : 1 ≤ n := by
  cases h <;> omega
/-- what leaves are -/
def numOk (d : PyData) : Prop := ∃ i : Int, d = .int i ∧ -(10 ^ 400) ≤ i ∧ i ≤ 10 ^ 400
def wordOk {w : Str} (h : PyData.strOk w = true) : plB (.str w) = true := h
theorem val_pl {L : PyData → Prop} (hL : ∀ d, L d → plB d = true) {bk : List (Str × PyData)} {n : Nat} {k v : PyData} (h : Val L bk n k v) : plB v = true := by
  induction h with
  | thing l => exact hL _ l
  | unit => rfl
  | name _ _ ih => exact ih
  | @pair n m p a b u v _ _ _ ia ib =>
    show (plB (.str "pair") && (plB u && (plB v && true))) = true
    rw [ia, ib]
    decide +kernel
  | @left n a b u _ ih =>
    show (plB (.str "left") && (plB u && true)) = true
    rw [ih]
    decide +kernel
  | @right n a b u _ ih =>
    show (plB (.str "right") && (plB u && true)) = true
    rw [ih]
    decide +kernel
/-! ### names followed -/
def Bare (k : PyData) : Prop := ∃ (w : Str) (r : List PyData), k = .tuple (.str w :: r) ∧ w ≠ "name"
inductive Hops (bk : List (Str × PyData)) : Nat → PyData → PyData → Prop
  | stop {k : PyData} : Bare k → Hops bk 0 k k
  | step {m : Nat} {x : Str} {k k' : PyData} : lookB bk x = some k → Hops bk m k k' → Hops bk (m + 1) (kName x) k'
theorem bare_name {x : Str} (h : Bare (kName x)) : False := by
  obtain ⟨w, r, e, n⟩ := h
  injection e with e
  injection e with e1 e2
  injection e1 with e1
  exact n e1.symm
theorem Hops.one {bk : List (Str × PyData)} {m : Nat} {k k' : PyData} (h : Hops bk m k k') : ∀ {m' : Nat} {k2 : PyData}, Hops bk m' k k2 → m = m' ∧ k' = k2 := by
  induction h with
  | stop b =>
    intro m' k2 g
    cases g with
    | stop _ => exact ⟨rfl, rfl⟩
    | step _ _ => exact (bare_name b).elim
  | step l _ ih =>
    intro m' k2 g
    cases g with
    | stop b => exact (bare_name b).elim
    | step l2 g =>
      rw [l] at l2
      cases l2
      obtain ⟨e1, e2⟩ := ih g
      exact ⟨by rw [e1], e2⟩
theorem Hops.end' {bk : List (Str × PyData)} {m : Nat} {k k' : PyData} (h : Hops bk m k k') : Bare k' := by
  induction h with
  | stop b => exact b
  | step _ _ ih => exact ih
theorem look_name {bk : List (Str × PyData)} {x : Str} {k : PyData} (h : lookB bk x = some k) : x ∈ bk.map (·.1) := by
  obtain ⟨p, mp, e, _⟩ := look_mem h
  exact List.mem_map.mpr ⟨p, mp, e⟩
theorem Hops.chain {bk : List (Str × PyData)} {m : Nat} {k k' : PyData} (h : Hops bk m k k') : ∃ l : List Str, l.length = m ∧ l.Nodup ∧ ∀ x ∈ l, x ∈ bk.map (·.1) ∧ ∃ j k2, j ≤ m ∧ 1 ≤ j ∧ Hops bk j (kName x) k2 := by
  induction h with
  | stop _ => exact ⟨[], rfl, .nil, (fun _ m => nomatch m)⟩
  | @step m x k k' l g ih =>
    obtain ⟨c, e, nd, hc⟩ := ih
    refine ⟨x :: c, by rw [List.length_cons, e], List.nodup_cons.mpr ⟨fun mx => ?_, nd⟩, fun y my => ?_⟩
    · obtain ⟨_, j, k2, hj, _, g2⟩ := hc x mx
      have := (Hops.step l g).one g2
      omega
    · rcases List.mem_cons.mp my with rfl | my
      · exact ⟨look_name l, m + 1, k', Nat.le_refl _, by omega, .step l g⟩
      · obtain ⟨a, j, k2, hj, j1, g2⟩ := hc y my
        exact ⟨a, j, k2, by omega, j1, g2⟩
theorem Hops.few {bk : List (Str × PyData)} {m : Nat} {k k' : PyData} (h : Hops bk m k k') : m ≤ bk.length := by
  obtain ⟨l, e, nd, hl⟩ := h.chain
  have := nodup_len (M := bk.map (·.1)) nd fun x mx => (hl x mx).1
  rw [List.length_map] at this
  omega
theorem bare_of {w : Str} {r : List PyData} (h : decide (w = "name") = false) : Bare (.tuple (.str w :: r)) := ⟨w, r, rfl, of_decide_eq_false h⟩
theorem Val.hops {L : PyData → Prop} {bk : List (Str × PyData)} {n : Nat} {k v : PyData} (h : Val L bk n k v) : ∃ m k' n', Hops bk m k k' ∧ n' + m ≤ n ∧ Val L bk n' k' v := by
  induction h with
  | @thing n d l => exact ⟨0, _, n + 1, .stop (bare_of (by decide +kernel)), Nat.le_refl _, .thing l⟩
  | @unit n => exact ⟨0, _, n + 1, .stop (bare_of (by decide +kernel)), Nat.le_refl _, .unit⟩
  | name l _ ih =>
    obtain ⟨m, k', n', g, le, w⟩ := ih
    exact ⟨m + 1, k', n', .step l g, by omega, w⟩
  | pair a b le _ _ => exact ⟨0, _, _, .stop (bare_of (by decide +kernel)), Nat.le_refl _, .pair a b le⟩
  | @left n a b u g _ => exact ⟨0, _, n + 1, .stop (bare_of (by decide +kernel)), Nat.le_refl _, .left g⟩
  | @right n a b u g _ => exact ⟨0, _, n + 1, .stop (bare_of (by decide +kernel)), Nat.le_refl _, .right g⟩
/-! ### the parts within a value of a kind that is no name -/
def sideD (s : Str) : Bool := decide (V.str s = V.str "left")
def kidsV : PyData → PyData → List (PyData × PyData)
  | .tuple [.str w, a, b], .tuple [_, u, v] => [(a, u), (b, v)]
  | .tuple [.str w, a, b], .tuple [.str s, u] => [(if sideD s = true then a else b, u)]
  | _, _ => []
theorem side_l : sideD "left" = true := by decide +kernel
theorem side_r : sideD "right" = false := by decide +kernel
theorem kids_l (a b u : PyData) : kidsV (kEith a b) (vLeft u) = [(a, u)] := by
  show [(if sideD "left" = true then a else b, u)] = _
  rw [side_l, if_pos rfl]
theorem kids_r (a b u : PyData) : kidsV (kEith a b) (vRight u) = [(b, u)] := by
  show [(if sideD "right" = true then a else b, u)] = _
  rw [side_r, if_neg Bool.false_ne_true]
/-! ### all parts, with kinds and paths, in the order of a walk -/
abbrev M3 := PyData × PyData × List Int
def kidsM (bk : List (Str × PyData)) : PyData → PyData → List Int → List M3
  | .tuple [.str w, e], v, p => match lookB bk (nmX e) with
    | some k => [(k, v, p)]
    | none => []
  | .tuple [.str w, a, b], .tuple [_, u, v], p => [(a, u, p ++ [1]), (b, v, p ++ [2])]
  | .tuple [.str w, a, b], .tuple [.str s, u], p => [(if sideD s = true then a else b, u, p ++ [1])]
  | _, _, _ => []
theorem kidsM_l (bk : List (Str × PyData)) (a b u : PyData) (p : List Int) : kidsM bk (kEith a b) (vLeft u) p = [(a, u, p ++ [1])] := by
  show [(if sideD "left" = true then a else b, u, p ++ [1])] = _
  rw [side_l, if_pos rfl]
theorem kidsM_r (bk : List (Str × PyData)) (a b u : PyData) (p : List Int) : kidsM bk (kEith a b) (vRight u) p = [(b, u, p ++ [1])] := by
  show [(if sideD "right" = true then a else b, u, p ++ [1])] = _
  rw [side_r, if_neg Bool.false_ne_true]
theorem kidsM_n {bk : List (Str × PyData)} {x : Str} {k : PyData} (h : lookB bk x = some k) (v : PyData) (p : List Int) : kidsM bk (kName x) v p = [(k, v, p)] := by
  show (match lookB bk (nmX (.str x)) with | some k => [(k, v, p)] | none => []) = _
  rw [show nmX (.str x) = x from rfl]
  rw [h]
def met (bk : List (Str × PyData)) : Nat → PyData → PyData → List Int → List M3
  | 0, _, _, _ => []
  | n + 1, k, v, p => (k, v, p) :: (kidsM bk k v p).flatMap fun c => met bk n c.1 c.2.1 c.2.2
section
variable {L : PyData → Prop} {bk : List (Str × PyData)}
/-- the parts below are values, of fewer parts together -/
theorem kidsM_val {n : Nat} {k v : PyData} (h : Val L bk n k v) (p : List Int) : ∃ fs : List Nat, fs.sum + 1 ≤ n ∧ Paired (fun m c => Val L bk m c.1 c.2.1) fs (kidsM bk k v p) := by
  cases h with
  | thing l => exact ⟨[], by simp, .nil⟩
  | unit => exact ⟨[], by simp, .nil⟩
  | @name n x k v l g =>
    rw [kidsM_n l]
    exact ⟨[n], by simp, .cons g .nil⟩
  | @pair n m q a b u v ga gb le => exact ⟨[m, q], by simp only [List.sum_cons, List.sum_nil]; omega, .cons ga (.cons gb .nil)⟩
  | @left n a b u g =>
    rw [kidsM_l]
    exact ⟨[n], by simp, .cons g .nil⟩
  | @right n a b u g =>
    rw [kidsM_r]
    exact ⟨[n], by simp, .cons g .nil⟩
theorem paired_mem_le {R : Nat → M3 → Prop} : ∀ {fs : List Nat} {cs : List M3}, Paired R fs cs → ∀ c ∈ cs, ∃ m ∈ fs, R m c ∧ m ≤ fs.sum
  | _, _, .nil => fun _ m => nomatch m
  | _, _, .cons (a := f) (l₁ := fs) r t => fun c mc => by
    rcases List.mem_cons.mp mc with rfl | mc
    · exact ⟨f, List.mem_cons_self, r, by rw [List.sum_cons]; omega⟩
    · obtain ⟨m, mm, g, le⟩ := paired_mem_le t c mc
      exact ⟨m, List.mem_cons_of_mem _ mm, g, by rw [List.sum_cons]; omega⟩
theorem flatMap_congr' {α β : Type} {f g : α → List β} : ∀ {l : List α}, (∀ x ∈ l, f x = g x) → l.flatMap f = l.flatMap g
  | [], _ => rfl
  | x :: l, h => by
    rw [List.flatMap_cons, List.flatMap_cons, h x List.mem_cons_self, flatMap_congr' (l := l) fun y m => h y (List.mem_cons_of_mem _ m)]
theorem met_fuel : ∀ {n m : Nat} {k v : PyData} {p : List Int}, Val L bk n k v → n ≤ m → met bk m k v p = met bk n k v p
  | 0, _, _, _, _, h, _ => absurd h.pos (by decide)
  | n + 1, 0, _, _, _, _, le => by omega
  | n + 1, m + 1, k, v, p, h, le => by
    show (k, v, p) :: _ = (k, v, p) :: _
    congr 1
    obtain ⟨fs, hs, pr⟩ := kidsM_val h p
    refine flatMap_congr' fun c mc => ?_
    obtain ⟨q, _, g, lq⟩ := paired_mem_le pr c mc
    rw [met_fuel g (by omega : q ≤ m), met_fuel g (by omega : q ≤ n)]
theorem met_step {n N : Nat} {k v : PyData} {p : List Int} (h : Val L bk n k v) (le : n ≤ N) : met bk N k v p = (k, v, p) :: (kidsM bk k v p).flatMap fun c => met bk N c.1 c.2.1 c.2.2 := by
  obtain ⟨N, rfl⟩ : ∃ z, N = z + 1 := ⟨N - 1, by have := h.pos; omega⟩
  show (k, v, p) :: _ = (k, v, p) :: _
  congr 1
  obtain ⟨fs, hs, pr⟩ := kidsM_val h p
  refine flatMap_congr' fun c mc => ?_
  obtain ⟨q, _, g, lq⟩ := paired_mem_le pr c mc
  rw [met_fuel g (by omega : q ≤ N), met_fuel g (by omega : q ≤ N + 1)]
/-- the path ahead stands ahead of all -/
theorem kidsM_pre (k v : PyData) (p q : List Int) : kidsM bk k v (p ++ q) = (kidsM bk k v q).map fun c => (c.1, c.2.1, p ++ c.2.2) := by
  unfold kidsM
  split
  · cases lookB bk _ <;> rfl
  · simp only [List.map_cons, List.map_nil, List.append_assoc]
  · simp only [List.map_cons, List.map_nil, List.append_assoc]
  · rfl
theorem met_pre : ∀ (n : Nat) (k v : PyData) (p q : List Int), met bk n k v (p ++ q) = (met bk n k v q).map fun c => (c.1, c.2.1, p ++ c.2.2)
  | 0, _, _, _, _ => rfl
  | n + 1, k, v, p, q => by
    show (k, v, p ++ q) :: _ = _
    rw [kidsM_pre]
    show _ = (k, v, p ++ q) :: _
    congr 1
    rw [List.flatMap_map, List.map_flatMap]
    exact flatMap_congr' fun c _ => met_pre n c.1 c.2.1 p c.2.2
/-- how many, how long -/
theorem met_len : ∀ {n : Nat} {k v : PyData} {p : List Int}, Val L bk n k v → (met bk n k v p).length ≤ n ∧ ∀ c ∈ met bk n k v p, c.2.2.length + 1 ≤ p.length + n
  | 0, _, _, _, h => absurd h.pos (by decide)
  | n + 1, k, v, p, h => by
    have go : ∀ (fs : List Nat) (cs : List M3), fs.sum ≤ n → (∀ c ∈ cs, c.2.2.length ≤ p.length + 1) → Paired (fun m c => Val L bk m c.1 c.2.1) fs cs → (cs.flatMap fun c => met bk n c.1 c.2.1 c.2.2).length ≤ fs.sum ∧ ∀ c ∈ cs.flatMap (fun c => met bk n c.1 c.2.1 c.2.2), c.2.2.length ≤ p.length + n := by
      intro fs cs hs hc pr
      induction pr with
      | nil => exact ⟨Nat.le_refl _, (fun _ m => nomatch m)⟩
      | @cons f c fs cs r t ih =>
        rw [List.sum_cons] at hs
        obtain ⟨i1, i2⟩ := ih (by omega) (fun c m => hc c (List.mem_cons_of_mem _ m))
        have hf : f ≤ n := by omega
        rw [List.flatMap_cons, List.sum_cons, met_fuel r hf]
        by_cases e : f = n + 1
        · omega
        have z := met_len (n := f) (p := c.2.2) r
        have lc := hc c List.mem_cons_self
        refine ⟨by rw [List.length_append]; omega, fun x mx => ?_⟩
        rcases List.mem_append.mp mx with mx | mx
        · have := z.2 x mx
          omega
        · exact i2 x mx
    obtain ⟨fs, hs, pr⟩ := kidsM_val h p
    have lk : ∀ c ∈ kidsM bk k v p, c.2.2.length ≤ p.length + 1 := fun c mc => by
      unfold kidsM at mc
      split at mc
      · split at mc
        · rw [List.mem_singleton.mp mc]; exact Nat.le_succ _
        · cases mc
      · rcases List.mem_cons.mp mc with e | mc
        · rw [e]; simp
        · rw [List.mem_singleton.mp mc]; simp
      · rw [List.mem_singleton.mp mc]; simp
      · cases mc
    obtain ⟨a, b⟩ := go fs _ (by omega) lk pr
    refine ⟨?_, fun c mc => ?_⟩
    · show (_ :: _).length ≤ _
      rw [List.length_cons]
      omega
    · rcases List.mem_cons.mp (show c ∈ (k, v, p) :: _ from mc) with e | mc
      · rw [e]
        show p.length + 1 ≤ _
        omega
      · have := b c mc
        omega
termination_by n => n
decreasing_by all_goals omega
end
/-! ### the paths to a hole -/
def roads (bk : List (Str × PyData)) (g : PyData) (n : Nat) (k v : PyData) : List (List Int) := ((met bk n k v []).filter fun c => PyData.eqv c.1 g).map fun c => c.2.2
def hereR (k g : PyData) : List (List Int) := if PyData.eqv k g = true then [[]] else []
section
variable {L : PyData → Prop} {bk : List (Str × PyData)} {g : PyData}
theorem roads_fuel {n m : Nat} {k v : PyData} (h : Val L bk n k v) (le : n ≤ m) : roads bk g m k v = roads bk g n k v := by
  unfold roads
  rw [met_fuel h le]
theorem roads_pre (n : Nat) (k v : PyData) (p : List Int) : ((met bk n k v p).filter fun c => PyData.eqv c.1 g).map (fun c => c.2.2) = (roads bk g n k v).map fun r => p ++ r := by
  have e : met bk n k v p = (met bk n k v []).map fun c => (c.1, c.2.1, p ++ c.2.2) := by
    rw [← met_pre, List.append_nil]
  rw [e]
  unfold roads
  rw [List.filter_map, List.map_map, List.map_map]
  rfl
theorem roads_step {n : Nat} {k v : PyData} : roads bk g (n + 1) k v = hereR k g ++ (kidsM bk k v []).flatMap fun c => (roads bk g n c.1 c.2.1).map fun r => c.2.2 ++ r := by
  have e : roads bk g (n + 1) k v = (((k, v, []) :: (kidsM bk k v []).flatMap fun c => met bk n c.1 c.2.1 c.2.2).filter fun c => PyData.eqv c.1 g).map (fun c => c.2.2) := rfl
  rw [e, List.filter_cons]
  have e2 : (((kidsM bk k v []).flatMap fun c => met bk n c.1 c.2.1 c.2.2).filter fun c => PyData.eqv c.1 g).map (fun c => c.2.2) = (kidsM bk k v []).flatMap fun c => (roads bk g n c.1 c.2.1).map fun r => c.2.2 ++ r := by
    rw [List.filter_flatMap, List.map_flatMap]
    exact flatMap_congr' fun c _ => roads_pre n c.1 c.2.1 c.2.2
  unfold hereR
  by_cases q : PyData.eqv k g = true
  · rw [if_pos q, if_pos q, List.map_cons, e2]
    rfl
  · rw [if_neg q, if_neg q, e2]
    rfl
theorem roads_name {n : Nat} {x : Str} {k v : PyData} (h : lookB bk x = some k) : roads bk g (n + 1) (kName x) v = hereR (kName x) g ++ roads bk g n k v := by
  rw [roads_step, kidsM_n h, List.flatMap_cons, List.flatMap_nil, List.append_nil]
  congr 1
  exact List.map_id _
theorem roads_pair {n : Nat} {a b u v : PyData} : roads bk g (n + 1) (kPair a b) (vPair u v) = hereR (kPair a b) g ++ ((roads bk g n a u).map (fun r => 1 :: r) ++ (roads bk g n b v).map (fun r => 2 :: r)) := by
  rw [roads_step]
  show _ ++ List.flatMap _ [(a, u, [1]), (b, v, [2])] = _
  rw [List.flatMap_cons, List.flatMap_cons, List.flatMap_nil, List.append_nil]
  rfl
theorem roads_left {n : Nat} {a b u : PyData} : roads bk g (n + 1) (kEith a b) (vLeft u) = hereR (kEith a b) g ++ (roads bk g n a u).map (fun r => 1 :: r) := by
  rw [roads_step, kidsM_l, List.flatMap_cons, List.flatMap_nil, List.append_nil]
  rfl
theorem roads_right {n : Nat} {a b u : PyData} : roads bk g (n + 1) (kEith a b) (vRight u) = hereR (kEith a b) g ++ (roads bk g n b u).map (fun r => 1 :: r) := by
  rw [roads_step, kidsM_r, List.flatMap_cons, List.flatMap_nil, List.append_nil]
  rfl
theorem roads_one {n : Nat} {w : Str} {v : PyData} : roads bk g (n + 1) (.tuple [.str w]) v = hereR (.tuple [.str w]) g := by
  rw [roads_step]
  show _ ++ List.flatMap _ [] = _
  rw [List.flatMap_nil, List.append_nil]
theorem here_two {w : Str} {a b : PyData} {h : Ho} : hereR (.tuple [.str w, a, b]) (hoD h) = [] := by
  refine if_neg fun z => ?_
  cases h with
  | th =>
    have z : PyData.eqvAll [.str w, a, b] [.str "thing"] = true := z
    simp only [PyData.eqvAll, Bool.and_eq_true, Bool.and_false, Bool.false_eq_true, and_false] at z
  | nm y =>
    have z : PyData.eqvAll [.str w, a, b] [.str "name", .str y] = true := z
    simp only [PyData.eqvAll, Bool.and_eq_true, Bool.and_false, Bool.false_eq_true, and_false] at z
theorem roads_few {n : Nat} {k v : PyData} (h : Val L bk n k v) : (roads bk g n k v).length ≤ n ∧ ∀ r ∈ roads bk g n k v, r.length + 1 ≤ n := by
  obtain ⟨a, b⟩ := met_len (p := []) h
  unfold roads
  refine ⟨?_, fun r mr => ?_⟩
  · rw [List.length_map]
    exact Nat.le_trans (List.length_filter_le _ _) a
  · obtain ⟨c, mc, rfl⟩ := List.mem_map.mp mr
    have := b c (List.mem_filter.mp mc).1
    simpa using this
end
end Toy
set_option Elab.async false
set_option linter.all false
set_option maxRecDepth 100000
set_option maxHeartbeats 4000000
namespace L2
open PySem PySem.Spec PyProof.Rows
def rEqTy : R2 := fun x y H Q => ∃ (d : PyData) (T : String), x = .ty (tyD d) ∧ y = .ty T ∧ (∀ s : Shared, s.TypeIs (.type T) "type") ∧ Q (.bl (decide (tyD d = T))) H
theorem op_eqTyD {X : Cx} : OpR X (compareOp .Eq) rEqTy := by
  intro pins s σ H x y v u Q I rx ry h
  obtain ⟨d, T, rfl, rfl, hT, q⟩ := h
  cases rx
  cases ry
  by_cases h : tyD d = T
  · rw [decide_eq_true h] at q
    subst h
    exact TypeEq.eq_type_same (tyD_meta d) ⟨.bl true, H, I, rfl, q⟩
  · rw [decide_eq_false h] at q
    exact TypeEq.eq_type_other (tyD_meta d) hT (by
      rw [Bool.eq_false_iff]
      intro z
      rw [beq_iff_eq] at z
      injection z with z
      exact h z) ⟨.bl false, H, I, rfl, q⟩
end L2
namespace Toy
open PySem L2 PyProof.Rows
abbrev sWhN : Stmt := top 36
abbrev sEmp : Stmt := top 37
abbrev sRowOf : Stmt := top 41
abbrev sPwi : Stmt := top 40
/-! ### the parts within a value -/
theorem iteY {p : Bool} {A B : Prop} (h : p = true) (a : A) : if p = true then A else B := by rw [if_pos h]; exact a
theorem iteN {p : Bool} {A B : Prop} (h : p = false) (b : B) : if p = true then A else B := by rw [if_neg (by rw [h]; exact Bool.false_ne_true)]; exact b
theorem notTup (ds : List PyData) : (!decide (tyD (.tuple ds) = "tuple")) = false := by
  show (!decide (("tuple" : String) = "tuple")) = false
  decide +kernel
def spLeaf (K : PySem.W.Frag) (L : PyData → Prop) : Sp := fun vs H Q _ => ∃ (v : V) (d : PyData), vs = [v] ∧ Dq K H v d ∧ L d ∧ Q (.bl true) H
def emptyD (d : PyData) : Prop := d = .tuple []
def isW (w : Str) : PyData → Bool
  | .str s => decide (V.str s = V.str w)
  | _ => false
def rowB (w : Str) (m : Int) : List PyData → Bool
  | [] => false
  | d :: r => decide (((d :: r).length : Int) = m) && isW w d
def spRow (K : PySem.W.Frag) : Sp := fun vs H Q _ => ∃ (w : Str) (m : Int) (v : V) (ds : List PyData), vs = [.str w, .int m, v] ∧ 1 ≤ m ∧ Dq K H v (.tuple ds) ∧ Q (.bl (rowB w m ds)) H
def Pr (K : PySem.W.Frag) (H : Hp) (x : V) (c : PyData × PyData) : Prop := ∃ t a b, x = .ref t ∧ H t = some (.tup [a, b]) ∧ Dq K H a c.1 ∧ Dq K H b c.2
def spPwi (K : PySem.W.Frag) (L : PyData → Prop) (g : Addr) : Sp := fun vs H Q _ => ∃ (u v : V) (bk : List (Str × PyData)) (n : Nat) (k d : PyData), vs = [u, v, .ref g] ∧ Dq K H u k ∧ Dq K H v d ∧ Bare k ∧ Val L bk n k d ∧
  ∀ p H' ws, Same H H' → SqX H' p ws → Paired (Pr K H') ws (kidsV k d) → Q (.ref p) H'
section
variable {P : Program} {w : World} {K : PySem.W.Frag} {mg : Str → Option Value} {base : Heap}
theorem scWhN : FnScope ["value"] ["value"] (defScope sWhN) := ⟨rfl, rfl, rfl, by decide +kernel, rfl, by decide +kernel, by decide +kernel⟩
theorem scEmp : FnScope ["value"] ["value"] (defScope sEmp) := ⟨rfl, rfl, rfl, by decide +kernel, rfl, by decide +kernel, by decide +kernel⟩
theorem scRowOf : FnScope ["word", "many", "row"] ["word", "many", "row"] (defScope sRowOf) := ⟨rfl, rfl, rfl, by decide +kernel, rfl, by decide +kernel, by decide +kernel⟩
theorem scPwi : FnScope ["kind", "value", "is_thing", "word"] ["kind", "value", "is_thing"] (defScope sPwi) := ⟨rfl, rfl, rfl, by decide +kernel, rfl, by decide +kernel, by decide +kernel⟩
theorem ok_whole {f : Addr} {fd : FuncData} (F : Fun K "is_whole_number" "is_whole_number" sWhN f fd) (U : Nt mg) (NI : mg "int" = none) : FnOk P w K mg base CX0 1 f fd ["value"] (spLeaf K numOk) := by
  refine F.ok scWhN (fun vs H Q E h => ?_) (fun cdv A outer s H vs Q E hr h => ?_)
  · obtain ⟨v, d, rfl, _⟩ := h
    rfl
  obtain ⟨v, d, rfl, hd, ⟨i, rfl, _⟩, q⟩ := h
  refine ⟨_, (pss_one (ps_ret (pe_cmpR op_eqTyD (pe_callTy call_tyD rfl U.type (by decide +kernel) (pa_cons (pv 0) pa_nil)) (pe_bltn (v := .ty "int") rfl NI (by decide +kernel) rfl (by decide) (by decide)) (nomark _)))), ?_⟩
  exact ⟨_, rfl, _, _, rfl, hd, _, "int", rfl, rfl, TypeEq.meta_int, q⟩
theorem ok_empty {f : Addr} {fd : FuncData} (F : Fun K "is_empty" "is_empty" sEmp f fd) (T : Nk mg) (U : Nt mg) (N : Nu mg) : FnOk P w K mg base CX0 1 f fd ["value"] (spLeaf K emptyD) := by
  refine F.ok scEmp (fun vs H Q E h => ?_) (fun cdv A outer s H vs Q E hr h => ?_)
  · obtain ⟨v, d, rfl, _⟩ := h
    rfl
  obtain ⟨v, d, rfl, hd, rfl, q⟩ := h
  refine ⟨_, (pss_one (ps_ret (pe_and (pe_cmpR op_eqTyD (pe_callTy call_tyD rfl U.type (by decide +kernel) (pa_cons (pv 0) pa_nil)) (pe_bltn (v := .ty "tuple") rfl N.tuple (by decide +kernel) rfl (by decide) (by decide)) (nomark _)) (pe_one (pe_cmpR op_eq (pe_callB call_len_seq rfl T.len PySem.boot_len (pa_cons (pv 0) pa_nil)) pe_int (nomark _)))))), ?_⟩
  obtain ⟨a, xs, rfl, hx, hA⟩ := dq_tuple hd
  obtain rfl := dqAll_nil hA
  refine ⟨_, rfl, _, _, rfl, hd, _, "tuple", rfl, rfl, TypeEq.meta_tuple, _, rfl, ?_⟩
  refine iteT ⟨_, rfl, a, _, rfl, .inr hx, rfl, q⟩
theorem ok_rowof {f : Addr} {fd : FuncData} (F : Fun K "is_row_of" "is_row_of" sRowOf f fd) (T : Nk mg) (U : Nt mg) : FnOk P w K mg base CX0 1 f fd ["word", "many", "row"] (spRow K) := by
  refine F.ok scRowOf (fun vs H Q E h => ?_) (fun cdv A outer s H vs Q E hr h => ?_)
  · obtain ⟨w, m, v, ds, rfl, _⟩ := h
    rfl
  obtain ⟨w, m, v, ds, rfl, m1, hd, q⟩ := h
  refine ⟨_, (pss_one (ps_ret (pe_and (pe_cmpR op_eq (pe_callB call_len_seq rfl T.len PySem.boot_len (pa_cons (pv 2) pa_nil)) (pv 1) (nomark _)) (pe_and (pe_cmpR op_eqTyD (pe_callTy call_tyD rfl U.type (by decide +kernel) (pa_cons (pe_ix ix_tup (pv 2) pe_int (fun _ _ => rfl)) pa_nil)) (pe_bltn (v := .ty "str") rfl U.str (by decide +kernel) rfl (by decide) (by decide)) (nomark _)) (pe_one (pe_cmpR op_eq (pe_ix ix_tup (pv 2) pe_int (fun _ _ => rfl)) (pv 0) (nomark _))))))), ?_⟩
  obtain ⟨a, xs, rfl, hx, hA⟩ := dq_tuple hd
  have hl := hA.len
  refine ⟨_, rfl, a, _, rfl, .inr hx, _, rfl, rfl, _, rfl, ?_⟩
  cases ds with
  | nil =>
    obtain rfl := dqAll_nil hA
    refine ite2 (fun g => ?_) (fun g => ?_)
    · have z := num_eq (n := 0) g
      omega
    · exact q
  | cons d0 r =>
    obtain ⟨x0, rs, rfl, h0, hR⟩ := dqAll_cons hA
    have el : decide (V.int ((x0 :: rs).length : Int) = V.int m) = decide (((d0 :: r).length : Int) = m) := by
      rw [hl]
      by_cases z : ((d0 :: r).length : Int) = m
      · rw [decide_eq_true z, decide_eq_true (by rw [z])]
      · rw [decide_eq_false z, decide_eq_false (fun q => z (by injection q))]
    rw [el]
    have q : Q (.bl (decide (((d0 :: r).length : Int) = m) && isW w d0)) H := q
    refine ite2 (fun g => ?_) (fun g => ?_)
    · rw [g, Bool.true_and] at q
      refine ⟨_, rfl, a, _, 0, x0, rfl, rfl, hx, atI_nat (j := 0) rfl, _, _, rfl, h0, _, "str", rfl, rfl, TypeEq.meta_str, _, rfl, ?_⟩
      refine ite2 (fun t => ?_) (fun t => ?_)
      · obtain ⟨s, rfl⟩ := str_of (of_decide_eq_true t)
        obtain rfl := dq_str h0
        exact ⟨_, rfl, a, _, 0, _, rfl, rfl, hx, atI_nat (j := 0) rfl, _, rfl, rfl, q⟩
      · have t' := Bool.eq_false_iff.mpr t
        have e : isW w d0 = false := by
          cases d0 <;> first | rfl | exact absurd rfl (of_decide_eq_false t')
        rw [e] at q
        exact q
    · have g' := Bool.eq_false_iff.mpr g
      rw [g', Bool.false_and] at q
      exact q
theorem ok_within {f gL gE gR : Addr} {fd dL dE dR : FuncData} {L : PyData → Prop} {xl : Str} {kL : Nat} (hkL : kL ≤ 1) (F : Fun K "parts_within" "parts_within" sPwi f fd) (U : Nt mg) (N : Nu mg) (LF : Gv P w K mg base kL xl gL dL ["value"] (spLeaf K L)) (EM : Gv P w K mg base 1 "is_empty" gE dE ["value"] (spLeaf K emptyD)) (RO : Gv P w K mg base 1 "is_row_of" gR dR ["word", "many", "row"] (spRow K)) : FnOk P w K mg base CX0 2 f fd ["kind", "value", "is_thing"] (spPwi K L gL) := by
  refine F.ok scPwi (fun vs H Q E h => ?_) (fun cdv A outer s H vs Q E hr h => ?_)
  · obtain ⟨u, v, bk, n, k, d, rfl, _⟩ := h
    rfl
  obtain ⟨u, v, bk, n, k, d, rfl, hu, hv, bare, val, q⟩ := h
  have hr1 : Room 1 (A.deeper _) := hr
  have hrL : Room kL (A.deeper _) := hr.mono hkL
  refine ⟨_, (pss_cons (ps_set (i := 3) scPwi.nd rfl (.inl rfl) (pe_ix ix_tup (pv 0) pe_int (fun _ _ => rfl)))
    (pss_cons (ps_if (pt_cmpR op_eq (pv 3) pe_str (nomark _)) (pss_one (ps_ret (pe_ifExp (pt_val (pe_callL (i := 2) LF.ok hrL (by rfl) (by first | exact Or.inl rfl | exact Or.inr (Or.inl rfl) | exact Or.inr (Or.inr rfl)) LF.k LF.b .nil pass0 (pa_cons (pv 1) pa_nil))) (pe_tupX pa_nil) pe_non))) pss_nil)
    (pss_cons (ps_if (PW.pt (pw_or (pt_cmpR op_eq (pv 3) pe_str (nomark _)) (pw_or1 (pt_cmpR op_neTy (pe_callTy call_tyD rfl U.type (by decide +kernel) (pa_cons (pv 1) pa_nil)) (pe_bltn (v := .ty "tuple") rfl N.tuple (by decide +kernel) rfl (by decide) (by decide)) (nomark _))))) (pss_one (ps_ret pe_non)) pss_nil)
    (pss_cons (ps_if (pt_cmpR op_eq (pv 3) pe_str (nomark _)) (pss_one (ps_ret (pe_ifExp (pt_val (pe_call EM.ok hr1 rfl EM.m EM.k EM.b .nil pass0 (pa_cons (pv 1) pa_nil))) (pe_tupX pa_nil) pe_non))) pss_nil)
    (pss_cons (ps_if (PW.pt (pw_and (pt_cmpR op_eq (pv 3) pe_str (nomark _)) (pw_and1 (pt_val (pe_call RO.ok hr1 rfl RO.m RO.k RO.b .nil pass0 (pa_cons pe_str (pa_cons pe_int (pa_cons (pv 1) pa_nil)))))))) (pss_one (ps_ret (pe_tupX (pa_cons (pe_tup (pa_cons (pe_ix ix_tup (pv 0) pe_int (fun _ _ => rfl)) (pa_cons (pe_ix ix_tup (pv 1) pe_int (fun _ _ => rfl)) pa_nil))) (pa_cons (pe_tup (pa_cons (pe_ix ix_tup (pv 0) pe_int (fun _ _ => rfl)) (pa_cons (pe_ix ix_tup (pv 1) pe_int (fun _ _ => rfl)) pa_nil))) pa_nil))))) pss_nil)
    (pss_cons (ps_if (PW.pt (pw_and (pt_cmpR op_eq (pv 3) pe_str (nomark _)) (pw_and1 (pt_val (pe_call RO.ok hr1 rfl RO.m RO.k RO.b .nil pass0 (pa_cons pe_str (pa_cons pe_int (pa_cons (pv 1) pa_nil)))))))) (pss_one (ps_ret (pe_tupX (pa_cons (pe_tup (pa_cons (pe_ix ix_tup (pv 0) pe_int (fun _ _ => rfl)) (pa_cons (pe_ix ix_tup (pv 1) pe_int (fun _ _ => rfl)) pa_nil))) pa_nil)))) pss_nil)
    (pss_cons (ps_if (PW.pt (pw_and (pt_cmpR op_eq (pv 3) pe_str (nomark _)) (pw_and1 (pt_val (pe_call RO.ok hr1 rfl RO.m RO.k RO.b .nil pass0 (pa_cons pe_str (pa_cons pe_int (pa_cons (pv 1) pa_nil)))))))) (pss_one (ps_ret (pe_tupX (pa_cons (pe_tup (pa_cons (pe_ix ix_tup (pv 0) pe_int (fun _ _ => rfl)) (pa_cons (pe_ix ix_tup (pv 1) pe_int (fun _ _ => rfl)) pa_nil))) pa_nil)))) pss_nil)
    (pss_one (ps_ret pe_non))))))))), ?_⟩
  have z3 : ∀ {k : Nat}, k ≤ 20 → k ≤ sizeLine := fun h => Nat.le_trans h (by decide)
  cases val with
  | thing l =>
    obtain ⟨ad, xs, rfl, hx, hA⟩ := dq_tuple hu
    obtain ⟨x0, rs, rfl, g0, hA⟩ := dqAll_cons hA
    cases g0
    refine ⟨_, rfl, ad, _, 0, _, rfl, rfl, hx, atI_nat (j := 0) rfl, ?_⟩
    refine ⟨_, rfl, rfl, _, rfl, iteY (by decide +kernel) ?_⟩
    refine ⟨rfl, _, rfl, v, d, rfl, hv, l, _, rfl, iteT ⟨z3 (by show 0 ≤ 20; decide), fun p o hp hd hs => ?_⟩⟩
    exact q p _ [] (same_new hp _) ⟨o, upd_same, hd, hs⟩ .nil
  | unit =>
    obtain ⟨ad, xs, rfl, hx, hA⟩ := dq_tuple hu
    obtain ⟨x0, rs, rfl, g0, hA⟩ := dqAll_cons hA
    cases g0
    refine ⟨_, rfl, ad, _, 0, _, rfl, rfl, hx, atI_nat (j := 0) rfl, ?_⟩
    refine ⟨_, rfl, rfl, _, rfl, iteN (by decide +kernel) ?_⟩
    refine ⟨_, rfl, rfl, _, rfl, iteN (by decide +kernel) ⟨_, rfl, _, _, rfl, hv, _, "tuple", rfl, rfl, TypeEq.meta_tuple, _, rfl, iteN (notTup _) ?_⟩⟩
    refine ⟨_, rfl, rfl, _, rfl, iteY (by decide +kernel) ?_⟩
    refine ⟨_, rfl, v, _, rfl, hv, rfl, _, rfl, iteT ⟨z3 (by show 0 ≤ 20; decide), fun p o hp hd hs => ?_⟩⟩
    exact q p _ [] (same_new hp _) ⟨o, upd_same, hd, hs⟩ .nil
  | name _ _ => exact (bare_name bare).elim
  | @pair n m p a b d1 d2 _ _ _ =>
    obtain ⟨ad, xs, rfl, hx, hA⟩ := dq_tuple hu
    obtain ⟨x0, rs, rfl, g0, hA⟩ := dqAll_cons hA
    obtain ⟨x1, rs, rfl, g1, hA⟩ := dqAll_cons hA
    obtain ⟨x2, rs, rfl, g2, hA⟩ := dqAll_cons hA
    cases g0
    obtain ⟨av, ys, rfl, hy, hB⟩ := dq_tuple hv
    obtain ⟨y0, ts, rfl, j0, hB⟩ := dqAll_cons hB
    obtain ⟨y1, ts, rfl, j1, hB⟩ := dqAll_cons hB
    obtain ⟨y2, ts, rfl, j2, hB⟩ := dqAll_cons hB
    refine ⟨_, rfl, ad, _, 0, _, rfl, rfl, hx, atI_nat (j := 0) rfl, ?_⟩
    refine ⟨_, rfl, rfl, _, rfl, iteN (by decide +kernel) ?_⟩
    refine ⟨_, rfl, rfl, _, rfl, iteN (by decide +kernel) ⟨_, rfl, _, _, rfl, hv, _, "tuple", rfl, rfl, TypeEq.meta_tuple, _, rfl, iteN (notTup _) ?_⟩⟩
    refine ⟨_, rfl, rfl, _, rfl, iteN (by decide +kernel) ?_⟩
    refine ⟨_, rfl, rfl, _, rfl, iteY (by decide +kernel) ⟨_, rfl, "pair", 3, _, _, rfl, by decide, hv, _, rfl, iteY (by show (decide ((3 : Int) = 3) && decide (V.str "pair" = V.str "pair")) = true; decide +kernel) ?_⟩⟩
    refine ⟨_, rfl, ad, _, 1, _, rfl, rfl, hx, atI_nat (j := 1) rfl, _, rfl, av, _, 1, _, rfl, rfl, hy, atI_nat (j := 1) rfl, z3 (by show 2 ≤ 20; decide), fun t1 h1 => ?_⟩
    have s1 := same_new h1 (.tup [x1, y1])
    refine ⟨_, rfl, ad, _, 2, _, rfl, rfl, s1.seqT hx, atI_nat (j := 2) rfl, _, rfl, av, _, 2, _, rfl, rfl, s1.seqT hy, atI_nat (j := 2) rfl, z3 (by show 2 ≤ 20; decide), fun t2 h2 => ?_⟩
    have s2 := same_new h2 (.tup [x2, y2])
    refine ⟨z3 (by show 2 ≤ 20; decide), fun p o hp hd hs => ?_⟩
    have s3 := same_new hp (.frz o (.tup [.ref t1, .ref t2]))
    have s13 := s1.trans (s2.trans s3)
    exact q p _ [.ref t1, .ref t2] s13 ⟨o, upd_same, hd, hs⟩ (.cons ⟨t1, x1, y1, rfl, s3 _ _ (s2 _ _ upd_same), Dq.mono s13 _ _ g1, Dq.mono s13 _ _ j1⟩ (.cons ⟨t2, x2, y2, rfl, s3 _ _ upd_same, Dq.mono s13 _ _ g2, Dq.mono s13 _ _ j2⟩ .nil))
  | @left n a b d1 _ =>
    obtain ⟨ad, xs, rfl, hx, hA⟩ := dq_tuple hu
    obtain ⟨x0, rs, rfl, g0, hA⟩ := dqAll_cons hA
    obtain ⟨x1, rs, rfl, g1, hA⟩ := dqAll_cons hA
    obtain ⟨x2, rs, rfl, g2, hA⟩ := dqAll_cons hA
    cases g0
    obtain ⟨av, ys, rfl, hy, hB⟩ := dq_tuple hv
    obtain ⟨y0, ts, rfl, j0, hB⟩ := dqAll_cons hB
    obtain ⟨y1, ts, rfl, j1, hB⟩ := dqAll_cons hB
    rw [kids_l] at q
    refine ⟨_, rfl, ad, _, 0, _, rfl, rfl, hx, atI_nat (j := 0) rfl, ?_⟩
    refine ⟨_, rfl, rfl, _, rfl, iteN (by decide +kernel) ?_⟩
    refine ⟨_, rfl, rfl, _, rfl, iteN (by decide +kernel) ⟨_, rfl, _, _, rfl, hv, _, "tuple", rfl, rfl, TypeEq.meta_tuple, _, rfl, iteN (notTup _) ?_⟩⟩
    refine ⟨_, rfl, rfl, _, rfl, iteN (by decide +kernel) ?_⟩
    refine ⟨_, rfl, rfl, _, rfl, iteN (by decide +kernel) (iteF ?_)⟩
    refine ⟨_, rfl, rfl, _, rfl, iteY (by decide +kernel) ⟨_, rfl, "left", 2, _, _, rfl, by decide, hv, _, rfl, iteY (by show (decide ((2 : Int) = 2) && decide (V.str "left" = V.str "left")) = true; decide +kernel) ?_⟩⟩
    refine ⟨_, rfl, ad, _, 1, _, rfl, rfl, hx, atI_nat (j := 1) rfl, _, rfl, av, _, 1, _, rfl, rfl, hy, atI_nat (j := 1) rfl, z3 (by show 2 ≤ 20; decide), fun t1 h1 => ?_⟩
    have s1 := same_new h1 (.tup [x1, y1])
    refine ⟨z3 (by show 1 ≤ 20; decide), fun p o hp hd hs => ?_⟩
    have s3 := same_new hp (.frz o (.tup [.ref t1]))
    have s13 := s1.trans s3
    exact q p _ [.ref t1] s13 ⟨o, upd_same, hd, hs⟩ (.cons ⟨t1, x1, y1, rfl, s3 _ _ upd_same, Dq.mono s13 _ _ g1, Dq.mono s13 _ _ j1⟩ .nil)
  | @right n a b d1 _ =>
    obtain ⟨ad, xs, rfl, hx, hA⟩ := dq_tuple hu
    obtain ⟨x0, rs, rfl, g0, hA⟩ := dqAll_cons hA
    obtain ⟨x1, rs, rfl, g1, hA⟩ := dqAll_cons hA
    obtain ⟨x2, rs, rfl, g2, hA⟩ := dqAll_cons hA
    cases g0
    obtain ⟨av, ys, rfl, hy, hB⟩ := dq_tuple hv
    obtain ⟨y0, ts, rfl, j0, hB⟩ := dqAll_cons hB
    obtain ⟨y1, ts, rfl, j1, hB⟩ := dqAll_cons hB
    rw [kids_r] at q
    refine ⟨_, rfl, ad, _, 0, _, rfl, rfl, hx, atI_nat (j := 0) rfl, ?_⟩
    refine ⟨_, rfl, rfl, _, rfl, iteN (by decide +kernel) ?_⟩
    refine ⟨_, rfl, rfl, _, rfl, iteN (by decide +kernel) ⟨_, rfl, _, _, rfl, hv, _, "tuple", rfl, rfl, TypeEq.meta_tuple, _, rfl, iteN (notTup _) ?_⟩⟩
    refine ⟨_, rfl, rfl, _, rfl, iteN (by decide +kernel) ?_⟩
    refine ⟨_, rfl, rfl, _, rfl, iteN (by decide +kernel) (iteF ?_)⟩
    refine ⟨_, rfl, rfl, _, rfl, iteY (by decide +kernel) ⟨_, rfl, "left", 2, _, _, rfl, by decide, hv, _, rfl, iteN (by show (decide ((2 : Int) = 2) && decide (V.str "right" = V.str "left")) = false; decide +kernel) ?_⟩⟩
    refine ⟨_, rfl, rfl, _, rfl, iteY (by decide +kernel) ⟨_, rfl, "right", 2, _, _, rfl, by decide, hv, _, rfl, iteY (by show (decide ((2 : Int) = 2) && decide (V.str "right" = V.str "right")) = true; decide +kernel) ?_⟩⟩
    refine ⟨_, rfl, ad, _, 2, _, rfl, rfl, hx, atI_nat (j := 2) rfl, _, rfl, av, _, 1, _, rfl, rfl, hy, atI_nat (j := 1) rfl, z3 (by show 2 ≤ 20; decide), fun t1 h1 => ?_⟩
    have s1 := same_new h1 (.tup [x2, y1])
    refine ⟨z3 (by show 1 ≤ 20; decide), fun p o hp hd hs => ?_⟩
    have s3 := same_new hp (.frz o (.tup [.ref t1]))
    have s13 := s1.trans s3
    exact q p _ [.ref t1] s13 ⟨o, upd_same, hd, hs⟩ (.cons ⟨t1, x2, y1, rfl, s3 _ _ upd_same, Dq.mono s13 _ _ g2, Dq.mono s13 _ _ j1⟩ .nil)
end
end Toy
set_option Elab.async false
set_option linter.all false
set_option maxRecDepth 100000
set_option maxHeartbeats 4000000
namespace Toy
open PySem L2 PyProof.Rows
abbrev sUnf : Stmt := top 39
abbrev sHk : Stmt := top 38
/-! ### all parts of a value looked at -/
theorem paired_app {α β : Type} {R : α → β → Prop} : ∀ {xs xs' : List α} {ys ys' : List β}, Paired R xs ys → Paired R xs' ys' → Paired R (xs ++ xs') (ys ++ ys')
  | _, _, _, _, .nil, s => s
  | _, _, _, _, .cons r t, s => .cons r (paired_app t s)
theorem paired_rev {α β : Type} {R : α → β → Prop} : ∀ {xs : List α} {ys : List β}, Paired R xs ys → Paired R xs.reverse ys.reverse
  | _, _, .nil => .nil
  | _, _, .cons r t => by
    rw [List.reverse_cons, List.reverse_cons]
    exact paired_app (paired_rev t) (.cons r .nil)
theorem sum_app (a b : List Nat) : (a ++ b).sum = a.sum + b.sum := by
  induction a with
  | nil => rw [List.nil_append, List.sum_nil]; omega
  | cons x a ih => rw [List.cons_append, List.sum_cons, List.sum_cons, ih]; omega
theorem sum_rev (a : List Nat) : a.reverse.sum = a.sum := by
  induction a with
  | nil => rfl
  | cons x a ih => rw [List.reverse_cons, sum_app, ih, List.sum_cons, List.sum_cons, List.sum_nil]; omega
theorem fuel_len {β : Type} {R : Nat → β → Prop} (h : ∀ m c, R m c → 1 ≤ m) : ∀ {fs : List Nat} {cs : List β}, Paired R fs cs → cs.length ≤ fs.sum
  | _, _, .nil => Nat.le_refl _
  | _, _, .cons r t => by
    have := h _ _ r
    have := fuel_len h t
    rw [List.length_cons, List.sum_cons]
    omega
theorem paired_length {α β : Type} {R : α → β → Prop} : ∀ {xs : List α} {ys : List β}, Paired R xs ys → xs.length = ys.length
  | _, _, .nil => rfl
  | _, _, .cons _ t => congrArg Nat.succ (paired_length t)
theorem paired_nilR {α β : Type} {R : α → β → Prop} {xs : List α} (h : Paired R xs ([] : List β)) : xs = [] := by cases h; rfl
theorem paired_nilL {α β : Type} {R : α → β → Prop} {ys : List β} (h : Paired R ([] : List α) ys) : ys = [] := by cases h; rfl
theorem paired_consL {α β : Type} {R : α → β → Prop} {x : α} {xs : List α} {ys : List β} (h : Paired R (x :: xs) ys) : ∃ y r, ys = y :: r ∧ R x y ∧ Paired R xs r := by
  cases h with
  | cons a b => exact ⟨_, _, rfl, a, b⟩
theorem paired_consR {α β : Type} {R : α → β → Prop} {xs : List α} {y : β} {ys : List β} (h : Paired R xs (y :: ys)) : ∃ x r, xs = x :: r ∧ R x y ∧ Paired R r ys := by
  cases h with
  | cons a b => exact ⟨_, _, rfl, a, b⟩
theorem paired_impR {α β : Type} {R R' : α → β → Prop} {P' : β → Prop} : ∀ {xs : List α} {ys : List β}, (∀ a b, P' b → R a b → R' a b) → (∀ b ∈ ys, P' b) → Paired R xs ys → Paired R' xs ys
  | _, _, _, _, .nil => .nil
  | _, _, h, p, .cons r t => .cons (h _ _ (p _ List.mem_cons_self) r) (paired_impR h (fun b m => p b (List.mem_cons_of_mem _ m)) t)
theorem kidsV_val {L : PyData → Prop} {bk : List (Str × PyData)} {n : Nat} {k v : PyData} (h : Val L bk n k v) (b : Bare k) : ∃ fs : List Nat, fs.sum + 1 ≤ n ∧ Paired (fun m (c : PyData × PyData) => Val L bk m c.1 c.2) fs (kidsV k v) := by
  cases h with
  | thing l => exact ⟨[], by simp, .nil⟩
  | unit => exact ⟨[], by simp, .nil⟩
  | name _ _ => exact (bare_name b).elim
  | @pair n m q a b u v ga gb le => exact ⟨[m, q], by simp only [List.sum_cons, List.sum_nil]; omega, .cons ga (.cons gb .nil)⟩
  | @left n a b u g =>
    rw [kids_l]
    exact ⟨[n], by simp, .cons g .nil⟩
  | @right n a b u g =>
    rw [kids_r]
    exact ⟨[n], by simp, .cons g .nil⟩
abbrev plC (c : PyData × PyData) : Prop := plB c.1 = true ∧ plB c.2 = true
theorem pl_row {w : Str} {a b : PyData} (h : plB (.tuple [.str w, a, b]) = true) : plB a = true ∧ plB b = true := by
  have h' : (plB (.str w) && (plB a && (plB b && true))) = true := h
  simp only [Bool.and_eq_true] at h'
  exact ⟨h'.2.1, h'.2.2.1⟩
theorem pl_row1 {w : Str} {a : PyData} (h : plB (.tuple [.str w, a]) = true) : plB a = true := by
  have h' : (plB (.str w) && (plB a && true)) = true := h
  simp only [Bool.and_eq_true] at h'
  exact h'.2.1
theorem kidsV_pl {L : PyData → Prop} {bk : List (Str × PyData)} {n : Nat} {k v : PyData} (h : Val L bk n k v) (br : Bare k) (pk : plB k = true) (pv' : plB v = true) : ∀ c ∈ kidsV k v, plC c := by
  cases h with
  | thing l => exact fun _ m => nomatch m
  | unit => exact fun _ m => nomatch m
  | name _ _ => exact (bare_name br).elim
  | @pair n m q a b u v ga gb le =>
    intro c mc
    rcases List.mem_cons.mp (show c ∈ [(a, u), (b, v)] from mc) with e | mc
    · rw [e]; exact ⟨(pl_row pk).1, (pl_row pv').1⟩
    · rw [List.mem_singleton.mp mc]; exact ⟨(pl_row pk).2, (pl_row pv').2⟩
  | @left n a b u g =>
    rw [kids_l]
    intro c mc
    rw [List.mem_singleton.mp mc]
    exact ⟨(pl_row pk).1, pl_row1 pv'⟩
  | @right n a b u g =>
    rw [kids_r]
    intro c mc
    rw [List.mem_singleton.mp mc]
    exact ⟨(pl_row pk).2, pl_row1 pv'⟩
/-- all kinds of the book are texts and tuples -/
def BkP (bk : List (Str × PyData)) : Prop := ∀ x k, lookB bk x = some k → plB k = true
theorem Hops.pl {bk : List (Str × PyData)} (B : BkP bk) {m : Nat} {k k' : PyData} (h : Hops bk m k k') (p : plB k = true) : plB k' = true := by
  induction h with
  | stop _ => exact p
  | step l _ ih => exact ih (B _ _ l)
theorem Pr.ts {K : PySem.W.Frag} {H H' : Hp} (e : TS H H') {x : V} {c : PyData × PyData} (p : plC c) (h : Pr K H x c) : Pr K H' x c := by
  obtain ⟨t, a, b, ex, ht, ha, hb⟩ := h
  exact ⟨t, a, b, ex, e.t _ _ ht, Dq.ts e _ _ p.1 ha, Dq.ts e _ _ p.2 hb⟩
theorem prs_ts {K : PySem.W.Frag} {H H' : Hp} (e : TS H H') : ∀ {ws : List V} {st : List (PyData × PyData)}, (∀ c ∈ st, plC c) → Paired (Pr K H) ws st → Paired (Pr K H') ws st
  | _, _, _, .nil => .nil
  | _, _, p, .cons r t => .cons (Pr.ts e (p _ List.mem_cons_self) r) (prs_ts e (fun c m => p c (List.mem_cons_of_mem _ m)) t)
def spUnf (K : PySem.W.Frag) : Sp := fun vs H Q _ => ∃ (t : Addr) (u : V) (bk : List (Str × PyData)) (m : Nat) (k k' : PyData), vs = [.ref t, u] ∧ Tab K H t bk ∧ bk.length ≤ 1000 ∧ Dq K H u k ∧ Hops bk m k k' ∧ ∀ u', Dq K H u' k' → Q u' H
def spHk (K : PySem.W.Frag) (L : PyData → Prop) (g : Addr) : Sp := fun vs H Q _ => ∃ (t : Addr) (u v : V) (bk : List (Str × PyData)) (n : Nat) (k d : PyData), vs = [.ref t, u, v, .ref g] ∧ Tab K H t bk ∧ bk.length ≤ 1000 ∧ BkP bk ∧ Dq K H u k ∧ Dq K H v d ∧ plC (k, d) ∧ Val L bk n k d ∧ n ≤ 1000 ∧
  ∀ H', Same H H' → Q (.bl true) H'
section
variable {P : Program} {w : World} {K : PySem.W.Frag} {mg : Str → Option Value} {base : Heap}
theorem scUnf : FnScope ["table", "kind", "_"] ["table", "kind"] (defScope sUnf) := ⟨rfl, rfl, rfl, by decide +kernel, rfl, by decide +kernel, by decide +kernel⟩
theorem scHk : FnScope ["table", "kind", "value", "is_thing", "waiting", "part_kind", "part", "inner"] ["table", "kind", "value", "is_thing"] (defScope sHk) := ⟨rfl, rfl, rfl, by decide +kernel, rfl, by decide +kernel, by decide +kernel⟩
theorem ok_unfolded {f : Addr} {fd : FuncData} (F : Fun K "unfolded" "unfolded" sUnf f fd) (R : Nr mg) (LN : mg "len" = none) (NC : Nc K mg) : FnOk P w K mg base CX0 1 f fd ["table", "kind"] (spUnf K) := by
  refine F.ok scUnf (fun vs H Q E h => ?_) (fun cdv A outer s H vs Q E hr h => ?_)
  · obtain ⟨t, u, bk, m, k, k', rfl, _⟩ := h
    rfl
  obtain ⟨t, u, bk, m, k, k', rfl, tb, few, hu, hp, q⟩ := h
  have hu1 := Nat.lt_of_le_of_lt (Nat.add_le_add_left (by decide : 1 ≤ 64) _) hr.units
  obtain ⟨aN, hN, _⟩ := NC.none
  refine ⟨_, (pss_cons (ps_for PassesOwn.never rfl (pi_range1 (by rfl) R.range (pa_cons (pe_op op_add (pe_callB call_lenD rfl LN PySem.boot_len (pa_cons (pv 0) pa_nil)) pe_int) pa_nil)) (pg_name (i := 2) scUnf.nd rfl (.inl rfl)) (pss_cons (ps_if (pt_cmpR op_ne (pe_ix ix_tup (pv 1) pe_int (fun _ _ => rfl)) pe_str (nomark _)) (pss_one (ps_ret (pv 1))) pss_nil)
    (pss_one (ps_set (i := 1) scUnf.nd rfl (.inl rfl) (pe_dget hu1 (pv 0) (pe_ix ix_tup (pv 1) pe_int (fun _ _ => rfl)) (fun _ _ => rfl))))))
    (pss_one (ps_ret (pe_glob (v := .ref aN) rfl hN rfl)))), ?_⟩
  obtain ⟨kvs, ht, pr⟩ := id tb
  have lk := pr.length
  have hf := hp.few
  refine ⟨_, rfl, t, kvs, rfl, ht, _, _, rfl, rfl, kvs.length + 1, rfl, by omega, by omega, ?_⟩
  refine for_range (lo := 0) (n := kvs.length + 1) (fun i σ H' => ∃ ui ki c j, σ = [some (.ref t), some ui, c] ∧ H' = H ∧ Dq K H ui ki ∧ Hops bk j ki k' ∧ j + i = m) ⟨u, k, none, m, rfl, rfl, hu, hp, rfl⟩ ?_ ?_
  · rintro i σ H' hi ⟨ui, ki, c, j, rfl, rfl, hui, hpi, ej⟩
    cases hpi with
    | stop b =>
      obtain ⟨wd, r, rfl, nw⟩ := b
      obtain ⟨ad, xs, rfl, hx, hA⟩ := dq_tuple hui
      obtain ⟨x0, rs, rfl, g0, hA⟩ := dqAll_cons hA
      cases g0
      refine ⟨_, rfl, ad, _, 0, _, rfl, rfl, hx, atI_nat (j := 0) rfl, rfl, _, rfl, iteY ?_ ?_⟩
      · rw [decide_eq_false (fun z => nw (by injection z))]
        rfl
      · exact ⟨_, rfl, q _ hui⟩
    | @step m' x k1 _ l g =>
      obtain ⟨ad, xs, rfl, hx, hA⟩ := dq_tuple hui
      obtain ⟨x0, rs, rfl, g0, hA⟩ := dqAll_cons hA
      obtain ⟨x1, rs, rfl, g1, hA⟩ := dqAll_cons hA
      cases g0
      cases g1
      refine ⟨_, rfl, ad, _, 0, _, rfl, rfl, hx, atI_nat (j := 0) rfl, rfl, _, rfl, iteN (by decide +kernel) ?_⟩
      rcases tb.get x with ⟨_, z⟩ | ⟨v1, d1, gk, z, D1⟩
      · rw [l] at z
        cases z
      · rw [l] at z
        cases z
        exact ⟨_, rfl, _, rfl, ad, _, 1, _, rfl, rfl, hx, atI_nat (j := 1) rfl, t, v1, rfl, gk, v1, k1, _, m', rfl, rfl, D1, g, by omega⟩
  · rintro σ H' ⟨ui, ki, c, j, rfl, rfl, hui, hpi, ej⟩
    omega
theorem ok_haskind {f gU gW gL : Addr} {fd dU dW : FuncData} {L : PyData → Prop} (F : Fun K "has_kind" "has_kind" sHk f fd) (UN : Gv P w K mg base 1 "unfolded" gU dU ["table", "kind"] (spUnf K)) (PW : Gv P w K mg base 2 "parts_within" gW dW ["kind", "value", "is_thing"] (spPwi K L gL)) : FnOk P w K mg base CX0 3 f fd ["table", "kind", "value", "is_thing"] (spHk K L gL) := by
  refine F.ok scHk (fun vs H Q E h => ?_) (fun cdv A outer s H vs Q E hr h => ?_)
  · obtain ⟨t, u, v, bk, n, k, d, rfl, _⟩ := h
    rfl
  obtain ⟨t, u, v, bk, n, k, d, rfl, tb, few, BP, hu, hv, pc, val, nn, q⟩ := h
  have hr1 : Room 1 (A.deeper _) := hr.mono (by omega)
  have hr2 : Room 2 (A.deeper _) := hr
  refine ⟨_, (pss_cons (ps_set (i := 4) scHk.nd rfl (.inl rfl) (pe_lst (pa_cons (pe_tup (pa_cons (pv 1) (pa_cons (pv 2) pa_nil))) pa_nil)))
    (pss_cons (ps_while PassesOwn.never (pt_truth (pv 4) (by intro _; rfl)) (pss_cons (ps_asg (pe_bm0 PySem.F.plainAttrs_list PySem.F.slot_list_pop PySem.F.type_list_pop mt_pop (pv 4)) (pg_tup rfl (pgs_cons (pg_name (i := 5) scHk.nd rfl (.inl rfl)) (pgs_cons (pg_name (i := 6) scHk.nd rfl (.inl rfl)) pgs_nil))))
    (pss_cons (ps_set (i := 7) scHk.nd rfl (.inl rfl) (pe_call PW.ok hr2 rfl PW.m PW.k PW.b .nil pass0 (pa_cons (pe_call UN.ok hr1 rfl UN.m UN.k UN.b .nil pass0 (pa_cons (pv 0) (pa_cons (pv 5) pa_nil))) (pa_cons (pv 6) (pa_cons (pv 3) pa_nil)))))
    (pss_cons (ps_if (pt_cmpR op_isN (pv 7) pe_non (nomark _)) (pss_one (ps_ret pe_bl)) pss_nil)
    (pss_one (ps_expr (pe_bm PySem.F.plainAttrs_list PySem.F.slot_list_extend PySem.F.type_list_extend mt_extendT (pv 4) (pa_cons (pv 7) pa_nil))))))))
    (pss_one (ps_ret pe_bl)))), ?_⟩
  have z3 : ∀ {k : Nat}, k ≤ 5000 → k ≤ sizeLine := fun h => Nat.le_trans h (by decide)
  refine ⟨_, rfl, _, rfl, z3 (by show 2 ≤ 5000; decide), fun t0 ht0 => ⟨z3 (by show 1 ≤ 5000; decide), fun wa hwa => ?_⟩⟩
  have s1 := same_new ht0 (.tup [u, v])
  have s2 := same_new hwa (.lst [.ref t0])
  have s12 := s1.trans s2
  have hwaH : H wa = none := s1.free hwa
  have w2 : upd (upd H t0 (.tup [u, v])) wa (.lst [.ref t0]) wa = some (.lst [.ref t0]) := upd_same
  have p0 : Pr K (upd (upd H t0 (.tup [u, v])) wa (.lst [.ref t0])) (.ref t0) (k, d) := ⟨t0, u, v, rfl, s2 _ _ upd_same, Dq.mono s12 _ _ hu, Dq.mono s12 _ _ hv⟩
  generalize upd (upd H t0 (.tup [u, v])) wa (.lst [.ref t0]) = H2 at s12 w2 p0 ⊢
  dsimp only [gName, tSeq]
  refine while_ix (fun m σ H' => ∃ st fs ws c5 c6 c7, σ = [some (.ref t), some u, some v, some (.ref gL), some (.ref wa), c5, c6, c7] ∧ Same H H' ∧ H' wa = some (.lst ws) ∧ Paired (Pr K H') ws.reverse st ∧ Paired (fun m (c : PyData × PyData) => Val L bk m c.1 c.2) fs st ∧ fs.sum = m ∧ (∀ c ∈ st, plC c) ∧ m ≤ n) n
    ⟨[(k, d)], [n], [.ref t0], none, none, none, rfl, s12, w2, .cons p0 .nil, .cons val .nil, (by simp), (fun c m => by rw [List.mem_singleton.mp m]; exact pc), Nat.le_refl _⟩ ?_ ?_
  · rintro m σ H' ⟨st, fs, ws, c5, c6, c7, rfl, sH, hw, rw', vf, es, pl, lm⟩
    rcases List.eq_nil_or_concat ws with rfl | ⟨w', y, rfl⟩
    · refine ⟨_, rfl, false, .inl ⟨[], SqL.of hw, rfl⟩, iteF ?_⟩
      exact q H' sH
    · rw [List.concat_eq_append] at hw rw'
      rw [List.reverse_append, List.reverse_singleton, List.singleton_append] at rw'
      obtain ⟨⟨k1, d1⟩, st', rfl, ⟨t1, a1, b1, rfl, hT, hA, hB⟩, rw2⟩ := paired_consL rw'
      obtain ⟨f1, fs', rfl, v1, vf2⟩ := paired_consR vf
      refine ⟨_, rfl, true, .inl ⟨_, SqL.of hw, by simp⟩, iteT ?_⟩
      refine ⟨_, rfl, .inl ⟨rfl, _, SqL.of hw⟩, wa, _, .ref t1, rfl, rfl, hw, by simp, ?_⟩
      have dl : (w' ++ [V.ref t1]).dropLast = w' := by simp
      rw [dl]
      have ts1 := TS.lst hw w'
      have sH1 : Same H (upd H' wa (.lst w')) := fun b o e => by rw [upd_ne (ne_of_none e hwaH)]; exact sH _ _ e
      have hT1 := ts1.t _ _ hT
      have pc1 := pl _ List.mem_cons_self
      have pl' : ∀ c ∈ st', plC c := fun c mc => pl c (List.mem_cons_of_mem _ mc)
      have hA1 := Dq.ts ts1 _ _ pc1.1 hA
      have hB1 := Dq.ts ts1 _ _ pc1.2 hB
      have hw1 : upd H' wa (.lst w') wa = some (.lst w') := upd_same
      have rw3 := prs_ts ts1 pl' rw2
      generalize upd H' wa (.lst w') = H4 at sH1 hT1 hA1 hB1 hw1 rw3 ⊢
      refine ⟨t1, _, rfl, SqT.of hT1, rfl, _, _, rfl, _, _, rfl, rfl, ?_⟩
      have v1 : Val L bk f1 k1 d1 := v1
      obtain ⟨hm, k2, n2, hp, le2, v2⟩ := v1.hops
      refine ⟨_, rfl, _, rfl, t, a1, bk, hm, k1, k2, rfl, tb.on sH1, few, hA1, hp, fun u2 hu2 => ?_⟩
      have pk2 := hp.pl BP pc1.1
      refine ⟨_, rfl, _, rfl, u2, b1, bk, n2, k2, d1, rfl, hu2, hB1, hp.end', v2, fun p H5 ws5 s5 hp5 pr5 => ?_⟩
      have sH5 := sH1.trans s5
      have hw5 := s5 _ _ hw1
      have ts5 := TS.same s5
      have rw5 := prs_ts ts5 pl' rw3
      obtain ⟨fs2, le3, vf3⟩ := kidsV_val v2 hp.end'
      have pl3 := kidsV_pl v2 hp.end' pk2 pc1.2
      refine ⟨_, rfl, rfl, _, rfl, iteN rfl ?_⟩
      have l1 := fuel_len (fun m (c : PyData × PyData) (r : Val L bk m c.1 c.2) => r.pos) vf2
      have l2 := fuel_len (fun m (c : PyData × PyData) (r : Val L bk m c.1 c.2) => r.pos) vf3
      have l3 := paired_length rw5
      have l4 := paired_length pr5
      rw [List.length_reverse] at l3
      rw [List.sum_cons] at es
      refine ⟨_, rfl, .inl ⟨rfl, _, SqL.of hw5⟩, _, rfl, wa, p, w', ws5, rfl, rfl, hw5, hp5, z3 (by omega), ?_⟩
      have ts6 := TS.lst hw5 (w' ++ ws5)
      refine ⟨(fs2.reverse ++ fs').sum, ?_, (kidsV k2 d1).reverse ++ st', fs2.reverse ++ fs', w' ++ ws5, _, _, _, rfl, (fun b o e => by rw [upd_ne (ne_of_none e hwaH)]; exact sH5 _ _ e), upd_same, ?_, paired_app (paired_rev vf3) vf2, rfl, ?_, ?_⟩
      · rw [sum_app, sum_rev]
        omega
      · rw [List.reverse_append]
        exact paired_app (paired_rev (prs_ts ts6 pl3 pr5)) (prs_ts ts6 pl' rw5)
      · intro c mc
        rcases List.mem_append.mp mc with mc | mc
        · exact pl3 c (List.mem_reverse.mp mc)
        · exact pl' c mc
      · rw [sum_app, sum_rev]
        omega
  · intro σ H' Q1 Q2 hq hc
    obtain ⟨x, ex, k, tr, q1⟩ := hc
    exact ⟨x, ex, k, tr, hq _ _ q1⟩
end
end Toy
set_option Elab.async false
set_option linter.all false
set_option maxRecDepth 100000
set_option maxHeartbeats 4000000
namespace L2
open PySem PySem.Spec PyProof.Rows
abbrev pathD (p : List Int) : PyData := .tuple (p.map PyData.int)
/-! ### path + (i,) -/
theorem ints_dq {K : PySem.W.Frag} {H : Hp} : ∀ {p : List Int} {vs : List V}, DqAll K H vs (p.map PyData.int) → vs = p.map V.int
  | [], _, .nil => rfl
  | i :: p, _, .cons (.int _) t => by rw [ints_dq t]; rfl
theorem dq_ints {K : PySem.W.Frag} {H : Hp} : ∀ p : List Int, DqAll K H (p.map V.int) (p.map PyData.int)
  | [] => .nil
  | i :: p => .cons (.int i) (dq_ints p)
def tSnoc (K : PySem.W.Frag) (te : TE) (i : Int) : TE := fun σ H Q => te σ H fun x H1 => ∃ p : List Int, Dq K H1 x (pathD p) ∧ p.length ≤ 2000 ∧ ∀ y H2, Same H1 H2 → Dq K H2 y (pathD (p ++ [i])) → Q y H2
theorem tSnoc_imp {K : PySem.W.Frag} {te : TE} (i : Int) (σ : St) (H : Hp) (Q : VK) (q0 : tSnoc K te i σ H Q) (mono : ∀ σ H Q Q', (∀ b H1, Q b H1 → Q' b H1) → te σ H Q → te σ H Q') : tOp (rCatN K) te (tTupN (tCons (tC (.int i)) tNil)) σ H Q := by
  refine mono σ H _ _ (fun x H1 h => ?_) q0
  obtain ⟨p, hd, hl, q⟩ := h
  refine ⟨Nat.le_trans (by show 1 ≤ 20; decide) (by decide), fun a o ha ho => ?_⟩
  obtain ⟨ad, xs, rfl, hx, hA⟩ := Toy.dq_tupleP hd
  have s1 := Toy.same_new ha (.frz o (.tup [.int i]))
  have hN : upd H1 a (.frz o (.tup [.int i])) a = some (.frz o (.tup [.int i])) := upd_same
  have hl2 := ints_dq hA
  refine ⟨ad, a, xs, [.int i], rfl, rfl, (s1.seqP hx).seqT, (SqP.of hN ho).seqT, ?_, fun e => ?_, (fun _ e => nomatch e), fun e _ b o2 hb ho2 => ?_⟩
  · rw [hl2, List.length_map]
    exact Nat.le_trans (by show p.length + 1 ≤ 2001; omega) (by decide)
  · have ep : p = [] := by
      rw [e] at hl2
      exact List.map_eq_nil_iff.mp hl2.symm
    refine q _ _ s1 ?_
    rw [ep]
    exact .tup (SqP.of hN ho) (.cons (.int i) .nil)
  · refine q _ _ (s1.trans (Toy.same_new hb _)) (.tup (SqP.of upd_same ho2) ?_)
    rw [hl2, List.map_append]
    exact (dq_ints p).append (.cons (.int i) .nil)
theorem pe_snoc {X : Cx} {j : Nat} {i : Int} {e f : Expr} {pos : Pos} (h : PE X e (tVar j)) (g : PE X f (tTupN (tCons (tC (.int i)) tNil))) : PE X (.BinOp e .Add f pos) (tSnoc X.K (tVar j) i) :=
  (pe_op op_catN h g).imp fun σ H Q q => tSnoc_imp i σ H Q q (fun σ H Q Q' hq hc => by
    obtain ⟨x, ex, q1⟩ := hc
    exact ⟨x, ex, hq _ _ q1⟩)
end L2
namespace Toy
open PySem L2 PyProof.Rows
abbrev sKs : Stmt := top 43
/-! ### all parts met -/
theorem pl_path (p : List Int) : plB (pathD p) = true := plA_iff.mpr fun d m => by
  obtain ⟨i, _, rfl⟩ := List.mem_map.mp m
  rfl
/-- kinds of a book -/
def kOk (k : PyData) : Prop := stB k = true ∧ k.depth ≤ 60
def BkK (bk : List (Str × PyData)) : Prop := ∀ x k, lookB bk x = some k → kOk k
theorem BkK.p {bk : List (Str × PyData)} (h : BkK bk) : BkP bk := fun x k l => st_pl _ (h x k l).1
def okM (c : M3) : Prop := kOk c.1 ∧ plB c.2.1 = true
theorem kOk.row {w : Str} {a b : PyData} (h : kOk (.tuple [.str w, a, b])) : kOk a ∧ kOk b := by
  have h' : (stB (.str w) && (stB a && (stB b && true))) = true := h.1
  simp only [Bool.and_eq_true] at h'
  have d := h.2
  rw [depth_row] at d
  exact ⟨⟨h'.2.1, by omega⟩, ⟨h'.2.2.1, by omega⟩⟩
theorem kidsM_ok {L : PyData → Prop} {bk : List (Str × PyData)} (B : BkK bk) {n : Nat} {k v : PyData} (h : Val L bk n k v) (p : List Int) (pk : kOk k) (pv' : plB v = true) : ∀ c ∈ kidsM bk k v p, okM c := by
  cases h with
  | thing l => exact fun _ m => nomatch m
  | unit => exact fun _ m => nomatch m
  | name l _ =>
    rw [kidsM_n l]
    intro c mc
    rw [List.mem_singleton.mp mc]
    exact ⟨B _ _ l, pv'⟩
  | @pair n m q a b u v ga gb le =>
    intro c mc
    rcases List.mem_cons.mp (show c ∈ [(a, u, p ++ [1]), (b, v, p ++ [2])] from mc) with e | mc
    · rw [e]; exact ⟨pk.row.1, (pl_row pv').1⟩
    · rw [List.mem_singleton.mp mc]; exact ⟨pk.row.2, (pl_row pv').2⟩
  | @left n a b u g =>
    rw [kidsM_l]
    intro c mc
    rw [List.mem_singleton.mp mc]
    exact ⟨pk.row.1, pl_row1 pv'⟩
  | @right n a b u g =>
    rw [kidsM_r]
    intro c mc
    rw [List.mem_singleton.mp mc]
    exact ⟨pk.row.2, pl_row1 pv'⟩
theorem met_ok {L : PyData → Prop} {bk : List (Str × PyData)} (B : BkK bk) : ∀ {n N : Nat} {k v : PyData} {p : List Int}, Val L bk n k v → n ≤ N → kOk k → plB v = true → ∀ c ∈ met bk N k v p, okM c
  | n, 0, _, _, _, h, le, _, _ => absurd h.pos (by omega)
  | n, N + 1, k, v, p, h, le, pk, pv' => fun c mc => by
    rcases List.mem_cons.mp (show c ∈ (k, v, p) :: _ from mc) with e | mc
    · rw [e]; exact ⟨pk, pv'⟩
    · obtain ⟨c2, m2, mc⟩ := List.mem_flatMap.mp mc
      obtain ⟨fs, hs, pr⟩ := kidsM_val h p
      obtain ⟨q, _, g, lq⟩ := paired_mem_le pr c2 m2
      obtain ⟨o1, o2⟩ := kidsM_ok B h p pk pv' c2 m2
      exact met_ok B g (by omega) o1 o2 c mc
/-- a row of a part, its kind, its path -/
def Pm (K : PySem.W.Frag) (H : Hp) (x : V) (c : M3) : Prop := ∃ t a b p, x = .ref t ∧ H t = some (.tup [a, b, p]) ∧ Dq K H a c.1 ∧ Dq K H b c.2.1 ∧ Dq K H p (pathD c.2.2)
theorem Pm.ts {K : PySem.W.Frag} {H H' : Hp} (e : TS H H') {x : V} {c : M3} (o : okM c) (h : Pm K H x c) : Pm K H' x c := by
  obtain ⟨t, a, b, p, ex, ht, ha, hb, hp⟩ := h
  exact ⟨t, a, b, p, ex, e.t _ _ ht, Dq.ts e _ _ (st_pl _ o.1.1) ha, Dq.ts e _ _ o.2 hb, Dq.ts e _ _ (pl_path _) hp⟩
theorem pms_ts {K : PySem.W.Frag} {H H' : Hp} (e : TS H H') : ∀ {ws : List V} {st : List M3}, (∀ c ∈ st, okM c) → Paired (Pm K H) ws st → Paired (Pm K H') ws st
  | _, _, _, .nil => .nil
  | _, _, p, .cons r t => .cons (Pm.ts e (p _ List.mem_cons_self) r) (pms_ts e (fun c m => p c (List.mem_cons_of_mem _ m)) t)
def spKs (K : PySem.W.Frag) : Sp := fun vs H Q _ => ∃ (u : V) (s w : Str) (a b : PyData), vs = [u, .str s] ∧ Dq K H u (.tuple [.str w, a, b]) ∧ ∀ x, Dq K H x (if sideD s = true then a else b) → Q x H
def spBel (K : PySem.W.Frag) (L : PyData → Prop) : Sp := fun vs H Q _ => ∃ (t : Addr) (u v x : V) (bk : List (Str × PyData)) (n : Nat) (k d : PyData) (p : List Int), vs = [.ref t, u, v, x] ∧ Tab K H t bk ∧ Dq K H u k ∧ Dq K H v d ∧ Dq K H x (pathD p) ∧ p.length ≤ 2000 ∧ Val L bk n k d ∧
  ∀ l H' ws, Same H H' → H' l = some (.lst ws) → Paired (Pm K H') ws (kidsM bk k d p).reverse → Q (.ref l) H'
def spMet (K : PySem.W.Frag) (L : PyData → Prop) : Sp := fun vs H Q _ => ∃ (t : Addr) (u v : V) (bk : List (Str × PyData)) (n : Nat) (k d : PyData), vs = [.ref t, u, v] ∧ Tab K H t bk ∧ BkK bk ∧ Dq K H u k ∧ Dq K H v d ∧ kOk k ∧ plB d = true ∧ Val L bk n k d ∧ n ≤ 1000 ∧
  ∀ l H' ws, Same H H' → H' l = some (.lst ws) → Paired (Pm K H') ws (met bk n k d []) → Q (.ref l) H'
def spPto (K : PySem.W.Frag) (L : PyData → Prop) : Sp := fun vs H Q _ => ∃ (t : Addr) (u x v : V) (bk : List (Str × PyData)) (n : Nat) (k d : PyData) (h : Ho), vs = [.ref t, u, x, v] ∧ Tab K H t bk ∧ BkK bk ∧ Dq K H u k ∧ Dq K H x (hoD h) ∧ hoOk h ∧ Dq K H v d ∧ kOk k ∧ plB d = true ∧ Val L bk n k d ∧ n ≤ 1000 ∧
  ∀ l H' ws, Same H H' → H' l = some (.lst ws) → DqAll K H' ws ((roads bk (hoD h) n k d).map pathD) → Q (.ref l) H'
section
variable {P : Program} {w : World} {K : PySem.W.Frag} {mg : Str → Option Value} {base : Heap}
theorem scKs : FnScope ["kind", "side"] ["kind", "side"] (defScope sKs) := ⟨rfl, rfl, rfl, by decide +kernel, rfl, by decide +kernel, by decide +kernel⟩
theorem ok_side {f : Addr} {fd : FuncData} (F : Fun K "kind_on_side" "kind_on_side" sKs f fd) : FnOk P w K mg base CX0 1 f fd ["kind", "side"] (spKs K) := by
  refine F.ok scKs (fun vs H Q E h => ?_) (fun cdv A outer s H vs Q E hr h => ?_)
  · obtain ⟨u, s, w, a, b, rfl, _⟩ := h
    rfl
  obtain ⟨u, s, w, a, b, rfl, hu, q⟩ := h
  refine ⟨_, (pss_one (ps_ret (pe_ifExp (pt_cmpR op_eq (pv 1) pe_str (nomark _)) (pe_ix ix_tup (pv 0) pe_int (fun _ _ => rfl)) (pe_ix ix_tup (pv 0) pe_int (fun _ _ => rfl))))), ?_⟩
  obtain ⟨ad, xs, rfl, hx, hA⟩ := dq_tuple hu
  obtain ⟨x0, rs, rfl, g0, hA⟩ := dqAll_cons hA
  obtain ⟨x1, rs, rfl, g1, hA⟩ := dqAll_cons hA
  obtain ⟨x2, rs, rfl, g2, hA⟩ := dqAll_cons hA
  refine ⟨_, rfl, rfl, _, rfl, ite2 (fun g => ?_) (fun g => ?_)⟩
  · rw [if_pos (show sideD s = true from g)] at q
    exact ⟨_, rfl, ad, _, 1, _, rfl, rfl, hx, atI_nat (j := 1) rfl, q _ g1⟩
  · rw [if_neg (show ¬ sideD s = true from g)] at q
    exact ⟨_, rfl, ad, _, 2, _, rfl, rfl, hx, atI_nat (j := 2) rfl, q _ g2⟩
end
end Toy
set_option Elab.async false
set_option linter.all false
set_option maxRecDepth 100000
set_option maxHeartbeats 4000000
namespace L2
open PySem PySem.Spec PyProof.Rows
/-! ### four keywords, the last one first -/
structure KB4 (K : PySem.W.Frag) (fd : FuncData) (k1 k2 k3 k4 : Str) : Prop where
  to : ∀ (s : Shared) (a b c d : Value), BindsTo s fd ⟨[], [(k4, d), (k3, c), (k2, b), (k1, a)]⟩ [(k1, a), (k2, b), (k3, c), (k4, d)]
theorem Fun.binds4 {K : PySem.W.Frag} {x qual : Str} {st : Stmt} {f : Addr} {fd : FuncData} {k1 k2 k3 k4 : Str} (F : Fun K x qual st f fd)
    (h : ∀ (kV doc pm : Value) (an : Option Addr) (cdv ct a b c d : Value), bindArgs (PySem.W.fnOf x qual (defArgs st) (defBody st) (defScope st) .none kV doc pm an cdv ct) ⟨[], [(k4, d), (k3, c), (k2, b), (k1, a)]⟩ = pure [(k1, a), (k2, b), (k3, c), (k4, d)]) : KB4 K fd k1 k2 k3 k4 := by
  obtain ⟨oc, od, kV, doc, pm, an, cdv, ct, osl, rfl, lk, hcd⟩ := F.ex
  exact ⟨fun s a b c d => BindsTo.of_eq (h kV doc pm an cdv ct a b c d)⟩
def tCallK4 (sp : Sp) (tk : TA) : TE := fun σ H Q => tk σ H fun zs H2 => ∃ w z y x, zs = [w, z, y, x] ∧ sp [x, y, z, w] H2 Q E0
theorem pe_callK4 {X : Cx} {k : Nat} {f : Addr} {fd : FuncData} {k1 k2 k3 k4 : Str} {sp : Sp} {x : Str} {p pos : Pos} {kws : List Keyword} {tk : TA} (F : FnOk X.prog X.w X.K X.mg X.base CX0 k f fd [k1, k2, k3, k4] sp) (hr : Room k X.A) (hg : Gl X x) (hm : X.mg x = some (.ref f)) (hk : PySem.W.keepIn X.K (.ref f) = true) (hb : KB4 X.K fd k1 k2 k3 k4)
    (hkw : PK X kws tk) (hall : (backToKw pos (keywordEach kws X.env)).all (·.1.isSome) = true := by rfl) (hks : (backToKw pos (keywordEach kws X.env)).filterMap (·.1) = [k4, k3, k2, k1] := by rfl) (hdb : (x == ("__debug__" : Str)) = false := by decide)
    (hpl : ((backTo pos (starEach [] X.env)).any (·.1) || (backToKw pos (keywordEach kws X.env)).any (·.1.isNone)) = false := by rfl) :
    PE X (.Call (.Name x p) [] kws pos) (tCallK4 sp tk) := by
  refine ⟨fun pins s σ H Q I h => ?_⟩
  refine wpAny_Call_Name_kw (ld_glob I hg hm ?_ hdb)
  refine PySem.W.callWith_KW0 (h₀ := X.base) I.ok.mod.kin hk hall ?_ hpl
  refine thn (hkw.run pos pins s σ H _ I h) fun ws s2 ⟨zs, H2, I2, rz, w, z, y, x, ez, q2⟩ => ⟨I2.kIn, ?_⟩
  subst ez
  cases rz with
  | cons r1 rt =>
    cases rt with
    | cons r2 rt =>
      cases rt with
      | cons r3 rt =>
        cases rt with
        | cons r4 rt =>
          cases rt
          rename_i d1 c1 b1 a1 _
          rw [hks]
          refine wpAny_call (codeAny_mono (F.run X.A X.stack s2 H2 ⟨[], [(k4, d1), (k3, c1), (k2, b1), (k1, a1)]⟩ [a1, b1, c1, d1] [x, y, z, w] Q E0 hr I2.env0 (hb.to s2 a1 b1 c1 d1) (.cons r4 (.cons r3 (.cons r2 (.cons r1 .nil)))) q2) fun r s' hq => ?_)
          cases r with
          | error e => exact (pass0 (X := X)) pins σ H2 s2 e s' I2 hq
          | ok fl =>
            cases fl with
            | ret u => exact I2.after hq
            | next => exact False.elim hq
            | brk => exact False.elim hq
            | cont => exact False.elim hq
end L2
namespace Toy
open PySem L2 PyProof.Rows
abbrev sCv : Stmt := top 46
/-! ### a value of a kind of a book -/
structure ValOk (d e x : PyData) (n : Nat) : Prop where
  bk : BkK (bkOf d)
  few : (bkOf d).length ≤ 1000
  k : kOk e
  pl : plB x = true
  val : Val numOk (bkOf d) n e x
  nn : n ≤ 1000
theorem ValOk.c {d e x : PyData} {n : Nat} (h : ValOk d e x n) : plC (e, x) := ⟨st_pl _ h.k.1, h.pl⟩
def spCv (K : PySem.W.Frag) : Sp := fun vs H Q _ => ∃ (t : Addr) (u v : V) (d e x : PyData) (n : Nat), vs = [.ref t, u, v] ∧ Tab K H t (bkOf d) ∧ Dq K H u e ∧ Dq K H v x ∧ ValOk d e x n ∧ ∀ H', Same H H' → Q .non H'
def spIv (K : PySem.W.Frag) (m : Nat) : Sp := fun vs H Q _ => ∃ (v u y : V) (d e x : PyData) (n : Nat), vs = [v, u, y] ∧ BookAt K m H v d ∧ KindAt K m H u d e ∧ Dq K H y x ∧ ValOk d e x n ∧ ∀ H', Same H H' → Q (.bl true) H'
def spSpt (K : PySem.W.Frag) (m : Nat) : Sp := fun vs H Q _ => ∃ (v u z y : V) (d e x : PyData) (h : Ho) (n : Nat), vs = [v, u, z, y] ∧ BookAt K m H v d ∧ KindAt K m H u d e ∧ HoleAt K m H z d h ∧ Dq K H y x ∧ ValOk d e x n ∧
  ∀ r H', Same H H' → Dq K H' r (.tuple ((roads (bkOf d) (hoD h) n e x).map pathD)) → Q r H'
section
variable {P : Program} {w : World} {K : PySem.W.Frag} {mg : Str → Option Value} {base : Heap} {m : Nat} {C : Addr}
theorem scCv : FnScope ["table", "kind", "value"] ["table", "kind", "value"] (defScope sCv) := ⟨rfl, rfl, rfl, by decide +kernel, rfl, by decide +kernel, by decide +kernel⟩
theorem ok_checkvalue {f gH gL : Addr} {fd dH : FuncData} (F : Fun K "check_value" "check_value" sCv f fd) (LM : mg "is_whole_number" = some (.ref gL)) (HK : Gv P w K mg base 3 "has_kind" gH dH ["table", "kind", "value", "is_thing"] (spHk K numOk gL)) : FnOk P w K mg base CX0 4 f fd ["table", "kind", "value"] (spCv K) := by
  refine F.ok scCv (fun vs H Q E h => ?_) (fun cdv A outer s H vs Q E hr h => ?_)
  · obtain ⟨t, u, v, d, e, x, n, rfl, _⟩ := h
    rfl
  obtain ⟨t, u, v, d, e, x, n, rfl, tb, hu, hv, ok, q⟩ := h
  refine ⟨_, (pss_one (ps_if (pt_not (pt_val (pe_call HK.ok hr rfl HK.m HK.k HK.b .nil pass0 (pa_cons (pv 0) (pa_cons (pv 1) (pa_cons (pv 2) (pa_cons (pe_glob (v := .ref gL) rfl LM rfl) pa_nil))))))) (pss_one ps_never) pss_nil)), ?_⟩
  refine ⟨_, rfl, _, rfl, _, rfl, t, u, v, bkOf d, n, e, x, rfl, tb, ok.few, ok.bk.p, hu, hv, ok.c, ok.val, ok.nn, fun H1 s1 => ⟨_, rfl, iteF ?_⟩⟩
  exact q H1 s1
end
end Toy
set_option Elab.async false
set_option linter.all false
set_option maxRecDepth 100000
set_option maxHeartbeats 2000000
namespace Toy
open PySem L2 PyProof.Rows
/-! ### kinds of a drawn book -/
theorem lookB_some {bk : List (Str × PyData)} {y : Str} {k : PyData} (m : (y, k) ∈ bk) : (lookB bk y).isSome = true := by
  unfold lookB
  rw [Option.isSome_map, List.find?_isSome]
  exact ⟨_, m, decide_eq_true rfl⟩
structure FmA (ds : List PyData) (e : PyData) : Prop where
  f : fB 22 e = true
  m : (ms 22 e).2.1 ≤ 1200
  tx : txtB e = true
  nl : ∀ x ∈ (ms 22 e).2.2, x.length ≤ 26
  kn : ∀ x ∈ (ms 22 e).2.2, (lookB (bkOf (.tuple ds)) x).isSome = true
theorem FmA.fu {ds : List PyData} {e : PyData} (h : FmA ds e) {n : Nat} (hn : 22 ≤ n) : fB n e = true ∧ ms n e = ms 22 e := ⟨fB_fuel h.f hn, ms_fuel h.f hn⟩
theorem FmA.st {ds : List PyData} {e : PyData} (h : FmA ds e) : stB e = true := fB_st 22 e h.f h.tx
theorem FmA.gd {ds : List PyData} {e : PyData} (h : FmA ds e) : gdB 0 e = true ∧ e.weight ≤ 26000 ∧ e.depth ≤ 22 := by
  obtain ⟨a, b, c⟩ := fB_w h.f h.tx h.nl
  have := h.m
  exact ⟨a, by omega, c⟩
theorem FmA.ok {ds : List PyData} {e : PyData} (h : FmA ds e) : kOk e := ⟨h.st, Nat.le_trans h.gd.2.2 (by decide)⟩
theorem FmA.knB {ds : List PyData} {e : PyData} (h : FmA ds e) {m : Nat} (hm : 30 ≤ m) : knB m (bkOf (.tuple ds)) e = true := by
  obtain ⟨f, s⟩ := h.fu (n := m) (by omega)
  unfold Toy.knB kdB
  have d := fB_deep h.f
  have := h.m
  rw [f, s, decide_eq_true (by omega), decide_eq_true (by omega)]
  exact List.all_eq_true.mpr h.kn
theorem FmA.at_ {K : PySem.W.Frag} {H : Hp} {v : V} {ds : List PyData} {e : PyData} (h : FmA ds e) (hd : Dq K H v e) : KindAt K 120 H v (.tuple ds) e := ⟨hd, h.tx, Nat.le_trans h.gd.2.2 (by decide), h.knB (by decide)⟩
section
variable {j : Nat} {ds : List PyData}
theorem look_txt (b : BookL j ds) {x : Str} (h : (lookB (bkOf (.tuple ds)) x).isSome = true) : txtOk x (8 + 9 * j) ∧ ∃ k, lookB (bkOf (.tuple ds)) x = some k ∧ PyData.tuple [.str x, k] ∈ ds := by
  obtain ⟨k, lk⟩ := Option.isSome_iff_exists.mp h
  obtain ⟨p, mp, e1, e2⟩ := look_mem lk
  obtain ⟨r, mr, er⟩ := List.mem_map.mp (show p ∈ ds.map (fun r => (rowN r, rowK r)) from mp)
  obtain ⟨y, k', rfl, ty, _, _⟩ := b.rows r mr
  subst er
  have e1' : y = x := e1
  have e2' : k' = k := e2
  subst e1'
  subst e2'
  exact ⟨ty, k', lk, mr⟩
theorem row_fm (b : BookL j ds) (hj : j ≤ 2) {y : Str} {k : PyData} (m : PyData.tuple [.str y, k] ∈ ds) : FmA ds k ∧ txtOk y (8 + 9 * j) ∧ nmB (.str y) = true := by
  obtain ⟨y', k', e, ty, lv, tx⟩ := b.rows _ m
  injection e with e
  injection e with e1 e
  injection e with e2 _
  injection e1 with e1
  subst e1
  subst e2
  obtain ⟨n, hn, f, mm⟩ := lv.form
  obtain ⟨y'', k'', e, nm, kn, _⟩ := tb_rows (b.tb 30 (by decide)) _ m
  injection e with e
  injection e with e1 e
  injection e with e2 _
  injection e1 with e1
  subst e1
  subst e2
  have f22 : fB 22 k = true := fB_fuel f (by omega)
  have s22 : ms 22 k = ms n k := ms_fuel f (by omega)
  have s30 : ms 30 k = ms 22 k := ms_fuel f22 (by decide)
  have kn' : ∀ x ∈ (ms 22 k).2.2, (lookB (bkOf (.tuple ds)) x).isSome = true := by
    unfold Toy.knB at kn
    rw [Bool.and_eq_true, List.all_eq_true, s30] at kn
    exact kn.2
  exact ⟨⟨f22, by rw [s22]; omega, tx, fun x mx => by
    have z := (look_txt b (kn' x mx)).1.2
    omega, kn'⟩, ty, nm⟩
theorem look_fm (b : BookL j ds) (hj : j ≤ 2) {x : Str} {k : PyData} (l : lookB (bkOf (.tuple ds)) x = some k) : FmA ds k := by
  obtain ⟨_, k', l', m⟩ := look_txt b (x := x) (by rw [l]; rfl)
  rw [l] at l'
  injection l' with l'
  subst l'
  exact (row_fm b hj m).1
theorem kt_fm (b : BookL j ds) (hj : j ≤ 2) {e : PyData} (t : KT (· ∈ ds.map rowN) 8 e) (tx : txtB e = true) : FmA ds e := by
  have nm : ∀ x ∈ ds.map rowN, nmB (.str x) = true ∧ (lookB (bkOf (.tuple ds)) x).isSome = true ∧ txtOk x (8 + 9 * j) := fun x mx => by
    obtain ⟨r, mr, rfl⟩ := List.mem_map.mp mx
    obtain ⟨y, k, rfl, ty, _, _⟩ := b.rows r mr
    have mp : (y, k) ∈ bkOf (.tuple ds) := List.mem_map.mpr ⟨_, mr, rfl⟩
    exact ⟨(row_fm b hj mr).2.2, lookB_some mp, ty⟩
  obtain ⟨f, _, c, d⟩ := kt_facts (fun x h => (nm x h).1) t (m := 22) (by decide)
  exact ⟨f, by have : 2 ^ 8 = 256 := rfl; omega, tx, fun x mx => by
    have z := (nm x (d x mx)).2.2.2
    omega, fun x mx => (nm x (d x mx)).2.1⟩
theorem kOk_of {e : PyData} (f : FmA ds e) : kOk e := f.ok
theorem bkK_of (b : BookL j ds) (hj : j ≤ 2) : BkK (bkOf (.tuple ds)) := fun x k l => (look_fm b hj l).ok
theorem bk_few (b : BookL j ds) (hj : j ≤ 2) : (bkOf (.tuple ds)).length ≤ 16 := by
  have e : (bkOf (.tuple ds)).length = ds.length := List.length_map ..
  have := b.few
  have : 2 ^ j ≤ 2 ^ 2 := Nat.pow_le_pow_right (by decide) hj
  omega
theorem bookAt_L {K : PySem.W.Frag} {H : Hp} {v : V} (b : BookL j ds) (hj : j ≤ 2) (hd : Dq K H v (.tuple ds)) : BookAt K 120 H v (.tuple ds) := by
  have rows : ∀ r ∈ ds, gdB 0 r = true ∧ r.depth ≤ 25 := fun r m => by
    obtain ⟨y, k, rfl, ty, _⟩ := b.rows r m
    obtain ⟨f, _, _⟩ := row_fm b hj m
    obtain ⟨g1, g2, g3⟩ := f.gd
    refine ⟨?_, ?_⟩
    · show (gdB 0 (.str y) && (gdB 0 k && true)) = true
      rw [(gd_str ty (j := 0) (by omega)).g, g1]
      rfl
    · simp only [PyData.depth, PyData.depthAll]
      omega
  have g : gdB 0 (.tuple ds) = true := gdA_iff.mpr fun r m => (rows r m).1
  have d := dA_le fun r m => (rows r m).2
  refine ⟨hd, topP_of hd, gdB_txt (by decide) _ g, ?_, b.tb 120 (by decide)⟩
  simp only [PyData.depth]
  omega
theorem book_stL (b : BookL j ds) (hj : j ≤ 2) : stB (.tuple ds) = true := by
  have all : ∀ l : List PyData, (∀ r ∈ l, stB r = true) → stA l = true := fun l => by
    induction l with
    | nil => exact fun _ => rfl
    | cons x l ih =>
      intro h
      show (stB x && stA l) = true
      rw [h x List.mem_cons_self, ih fun y m => h y (List.mem_cons_of_mem _ m)]
      rfl
  refine all ds fun r m => ?_
  obtain ⟨y, k, rfl, ty, _⟩ := b.rows r m
  show (PyData.strOk y && (stB k && true)) = true
  rw [ty.1, (row_fm b hj m).1.st]
  rfl
theorem rowsP_L (b : BookL j ds) : RowsP ds := fun r m => by
  obtain ⟨y, k, e, _⟩ := b.rows r m
  exact ⟨y, k, e⟩
end
end Toy
set_option Elab.async false
set_option linter.all false
set_option maxRecDepth 100000
set_option maxHeartbeats 2000000
namespace Toy
open PySem L2 PyProof.Rows
/-! ### the least number of parts of a value -/
def mnI (i j : Int) : Int := if j < i then j else i
def lookN (hw : List (Str × Int)) (x : Str) : Option Int := (hw.find? fun p => decide (p.1 = x)).map (·.2)
def HvR (kv : Key × V) (p : Str × Int) : Prop := kv.1 = .inr p.1 ∧ kv.2 = .int p.2
theorem hv_look {x : Str} : ∀ {kvs : List (Key × V)} {hw : List (Str × Int)}, Paired HvR kvs hw → valV kvs (.inr x) = (lookN hw x).map V.int
  | _, _, .nil => rfl
  | _, _, .cons (a := kv) (b := p) r t => by
    obtain ⟨e, D⟩ := r
    unfold valV lookN
    rw [List.find?_cons, List.find?_cons]
    by_cases z : p.1 = x
    · have z1 : decide (kv.1 = .inr x) = true := decide_eq_true (by rw [e, z])
      rw [z1, decide_eq_true z]
      show some kv.2 = _
      rw [D]
      rfl
    · have z1 : decide (kv.1 = .inr x) = false := decide_eq_false (fun q => z (by rw [e] at q; injection q))
      rw [z1, decide_eq_false z]
      exact hv_look t
def wt (hw : List (Str × Int)) : Nat → PyData → Int
  | n + 1, .tuple [.str w, a, b] => mnI (10 ^ 9) (1 + (if wE w = true then mnI (wt hw n a) (wt hw n b) else wt hw n a + wt hw n b))
  | _, .tuple [.str w, .str x] => (lookN hw x).getD 0
  | _, .tuple [.str w] => if decide (V.str w = V.str "none") = true then 10 ^ 9 else 1
  | _, _ => 0
def spWt (K : PySem.W.Frag) (n : Nat) : Sp := fun vs H Q _ => ∃ (t : Addr) (v : V) (kvs : List (Key × V)) (hw : List (Str × Int)) (d : PyData), vs = [.ref t, v] ∧ H t = some (.dK kvs) ∧ Paired HvR kvs hw ∧ Dq K H v d ∧ fB n d = true ∧ (∀ x ∈ (ms n d).2.2, (lookN hw x).isSome = true) ∧ ∀ H', Same H H' → Q (.int (wt hw n d)) H'
section
variable {P : Program} {w : World} {K : PySem.W.Frag} {mg : Str → Option Value} {base : Heap}
end
end Toy
set_option Elab.async false
set_option linter.all false
set_option maxRecDepth 100000
set_option maxHeartbeats 2000000
namespace Toy
open PySem L2 PyProof.Rows
/-! ### weights that only fall -/
def putI (l : List (Str × Int)) (x : Str) (v : Int) : List (Str × Int) := if (l.any fun p => decide (p.1 = x)) = true then l.map (fun p => if p.1 = x then (p.1, v) else p) else l ++ [(x, v)]
theorem hv_any {x : Str} : ∀ {kvs : List (Key × V)} {l : List (Str × Int)}, Paired HvR kvs l → (kvs.any fun kv => decide (kv.1 = Sum.inr x)) = l.any fun p => decide (p.1 = x)
  | _, _, .nil => rfl
  | _, _, .cons (a := kv) (b := p) r t => by
    rw [List.any_cons, List.any_cons, hv_any t]
    congr 1
    rw [r.1]
    by_cases e : p.1 = x
    · rw [decide_eq_true e, decide_eq_true (by rw [e])]
    · rw [decide_eq_false e, decide_eq_false (fun z => e (by injection z))]
theorem hv_map {x : Str} {v : Int} : ∀ {kvs : List (Key × V)} {l : List (Str × Int)}, Paired HvR kvs l →
    Paired HvR (kvs.map fun kv => if kv.1 = Sum.inr x then (kv.1, .int v) else kv) (l.map fun p => if p.1 = x then (p.1, v) else p)
  | _, _, .nil => .nil
  | _, _, .cons (a := kv) (b := p) r t => by
    refine .cons ?_ (hv_map t)
    show HvR (if kv.1 = Sum.inr x then (kv.1, .int v) else kv) (if p.1 = x then (p.1, v) else p)
    by_cases e : p.1 = x
    · rw [if_pos e, if_pos (by rw [r.1, e])]
      exact ⟨r.1, rfl⟩
    · rw [if_neg e, if_neg (fun z => e (by rw [r.1] at z; injection z))]
      exact r
theorem hv_put {kvs : List (Key × V)} {l : List (Str × Int)} {x : Str} {v : Int} (t : Paired HvR kvs l) : Paired HvR (putK kvs (.inr x) (.int v)) (putI l x v) := by
  unfold putK putI
  rw [hv_any t]
  cases l.any fun p => decide (p.1 = x) with
  | true =>
    rw [if_pos rfl, if_pos rfl]
    exact hv_map t
  | false =>
    rw [if_neg Bool.false_ne_true, if_neg Bool.false_ne_true]
    exact paired_snoc ⟨rfl, rfl⟩ t
theorem lookN_cons (p : Str × Int) (l : List (Str × Int)) (z : Str) : lookN (p :: l) z = if p.1 = z then some p.2 else lookN l z := by
  unfold lookN
  rw [List.find?_cons]
  by_cases e : p.1 = z
  · rw [decide_eq_true e, if_pos e]
    rfl
  · rw [decide_eq_false e, if_neg e]
theorem lookN_map {x z : Str} {v : Int} : ∀ {l : List (Str × Int)}, lookN (l.map fun p => if p.1 = x then (p.1, v) else p) z = if x = z then (if (l.any fun p => decide (p.1 = x)) = true then some v else none) else lookN l z
  | [] => by
    show none = _
    split <;> rfl
  | p :: l => by
    rw [List.map_cons, lookN_cons, lookN_map, lookN_cons, List.any_cons]
    by_cases e : p.1 = x
    · rw [if_pos e, decide_eq_true e, Bool.true_or, if_pos rfl]
      show (if p.1 = z then some v else _) = _
      by_cases g : x = z
      · rw [if_pos (e.trans g), if_pos g]
      · rw [if_neg (fun q => g (e.symm.trans q)), if_neg g, if_neg g, if_neg (fun q => g (e.symm.trans q))]
    · rw [if_neg e, decide_eq_false e, Bool.false_or]
      by_cases g : x = z
      · rw [if_pos g, if_pos g, if_neg (fun q => e (q.trans g.symm))]
      · rw [if_neg g, if_neg g]
theorem lookN_app {x z : Str} {v : Int} : ∀ {l : List (Str × Int)}, (l.any fun p => decide (p.1 = x)) = false → lookN (l ++ [(x, v)]) z = if x = z then some v else lookN l z
  | [], _ => by
    show lookN [(x, v)] z = _
    rw [lookN_cons]
  | p :: l, h => by
    rw [List.any_cons, Bool.or_eq_false_iff] at h
    rw [List.cons_append, lookN_cons, lookN_app h.2, lookN_cons]
    have e := of_decide_eq_false h.1
    by_cases g : x = z
    · rw [if_pos g, if_pos g, if_neg (fun q => e (q.trans g.symm))]
    · rw [if_neg g, if_neg g]
theorem lookN_put {l : List (Str × Int)} {x z : Str} {v : Int} : lookN (putI l x v) z = if x = z then some v else lookN l z := by
  unfold putI
  cases h : l.any fun p => decide (p.1 = x) with
  | true => rw [if_pos rfl, lookN_map, h, if_pos rfl]
  | false => rw [if_neg Bool.false_ne_true, lookN_app h]
theorem mnI_le {i j : Int} : mnI i j ≤ i ∧ mnI i j ≤ j := by
  unfold mnI
  split <;> omega
theorem mnI_mono {i j i' j' : Int} (h : i ≤ i') (g : j ≤ j') : mnI i j ≤ mnI i' j' := by
  unfold mnI
  split <;> split <;> omega
theorem mnI_ge {i j k : Int} (h : k ≤ i) (g : k ≤ j) : k ≤ mnI i j := by
  unfold mnI
  split <;> omega
theorem wt_one {hw : List (Str × Int)} {n : Nat} {w : Str} : wt hw n (.tuple [.str w]) = if decide (V.str w = V.str "none") = true then 10 ^ 9 else 1 := by cases n <;> rfl
theorem wt_nm {hw : List (Str × Int)} {n : Nat} {w x : Str} : wt hw n (.tuple [.str w, .str x]) = (lookN hw x).getD 0 := by cases n <;> rfl
theorem wt_two {hw : List (Str × Int)} {n : Nat} {w : Str} {a b : PyData} : wt hw (n + 1) (.tuple [.str w, a, b]) = mnI (10 ^ 9) (1 + (if wE w = true then mnI (wt hw n a) (wt hw n b) else wt hw n a + wt hw n b)) := rfl
/-- lower numbers, lower weights -/
theorem wt_mono {hw hw' : List (Str × Int)} (h : ∀ x, (lookN hw' x).getD 0 ≤ (lookN hw x).getD 0) : ∀ (n : Nat) (d : PyData), fB n d = true → wt hw' n d ≤ wt hw n d
  | 0, d, f => by cases f
  | n + 1, d, f => by
    rcases fB_cases f with ⟨w, rfl, _⟩ | ⟨w, x, rfl, _, _⟩ | ⟨m, w, a, b, en, rfl, _, ha, hb⟩
    · rw [wt_one, wt_one]
      exact Int.le_refl _
    · rw [wt_nm, wt_nm]
      exact h x
    · obtain rfl : n = m := by omega
      have ia := wt_mono h n a ha
      have ib := wt_mono h n b hb
      rw [wt_two, wt_two]
      refine mnI_mono (Int.le_refl _) (Int.add_le_add_left ?_ _)
      split
      · exact mnI_mono ia ib
      · exact Int.add_le_add ia ib
/-- every number at least 1, so every weight -/
theorem wt_pos {hw : List (Str × Int)} : ∀ (n : Nat) (d : PyData), fB n d = true → (∀ x ∈ (ms n d).2.2, ∃ k, lookN hw x = some k ∧ 1 ≤ k) → 1 ≤ wt hw n d
  | 0, d, f, _ => by cases f
  | n + 1, d, f, h => by
    rcases fB_cases f with ⟨w, rfl, _⟩ | ⟨w, x, rfl, _, _⟩ | ⟨m, w, a, b, en, rfl, _, ha, hb⟩
    · rw [wt_one]
      split <;> decide
    · rw [wt_nm]
      obtain ⟨k, e, g⟩ := h x (show x ∈ [x] from List.mem_singleton.mpr rfl)
      rw [e]
      exact g
    · obtain rfl : n = m := by omega
      rw [ms_row] at h
      have ia := wt_pos n a ha fun x m => h x (List.mem_append.mpr (.inl m))
      have ib := wt_pos n b hb fun x m => h x (List.mem_append.mpr (.inr m))
      rw [wt_two]
      refine mnI_ge (by decide) ?_
      split
      · have := mnI_ge ia ib
        omega
      · omega
/-- the names' numbers: each bears 1 and the weight of its kind, or is 10 ** 9 -/
structure Fal (bk : List (Str × PyData)) (hw : List (Str × Int)) : Prop where
  all : ∀ p ∈ bk, ∃ k, lookN hw p.1 = some k ∧ 1 ≤ k ∧ k ≤ 10 ^ 9 ∧ ∀ n, fB n p.2 = true → k < 10 ^ 9 → 1 + wt hw n p.2 ≤ k
/-- 1 and the weight put in its place -/
theorem Fal.put {bk : List (Str × PyData)} {hw : List (Str × Int)} {y : Str} {d : PyData} {n : Nat} (F : Fal bk hw) (dist : ∀ p ∈ bk, p.1 = y → p.2 = d) (un : ∀ m, fB m d = true → ∀ hw, wt hw m d = wt hw n d) (mem : (y, d) ∈ bk) (f : fB n d = true) (ps : 1 ≤ wt hw n d) : Fal bk (putI hw y (mnI (10 ^ 9) (1 + wt hw n d))) := by
  have low : ∀ x, (lookN (putI hw y (mnI (10 ^ 9) (1 + wt hw n d))) x).getD 0 ≤ (lookN hw x).getD 0 := fun x => by
    rw [lookN_put]
    by_cases e : y = x
    · rw [if_pos e, ← e]
      obtain ⟨k, e1, e2, e3, e4⟩ := F.all _ mem
      rw [e1]
      show mnI _ _ ≤ k
      have l1 := (mnI_le (i := 10 ^ 9) (j := 1 + wt hw n d)).1
      have l2 := (mnI_le (i := 10 ^ 9) (j := 1 + wt hw n d)).2
      by_cases g : k < 10 ^ 9
      · have q : 1 + wt hw n d ≤ k := e4 n f g
        omega
      · omega
    · rw [if_neg e]
      exact Int.le_refl _
  refine ⟨fun p mp => ?_⟩
  obtain ⟨k, e1, e2, e3, e4⟩ := F.all p mp
  rw [lookN_put]
  by_cases e : y = p.1
  · rw [if_pos e]
    have ed := dist p mp e.symm
    refine ⟨_, rfl, mnI_ge (by decide) (by omega), mnI_le.1, fun m fm g => ?_⟩
    rw [ed] at fm ⊢
    rw [un m fm]
    have := wt_mono low n d f
    unfold mnI at g ⊢
    split at g
    · rename_i hlt
      rw [if_pos hlt]
      unfold mnI at this
      rw [if_pos hlt] at this
      omega
    · exact absurd g (by omega)
  · rw [if_neg e]
    refine ⟨k, e1, e2, e3, fun m fm g => ?_⟩
    have := wt_mono low m p.2 fm
    have := e4 m fm g
    omega
end Toy
set_option Elab.async false
set_option linter.all false
set_option maxRecDepth 100000
set_option maxHeartbeats 4000000
namespace Toy
open PySem L2 PyProof.Rows
abbrev sCo : Stmt := top 71
abbrev sCs : Stmt := top 72
/-! ### how many parts a kind's least value has, round by round -/
abbrev lTu : List Str := ["thing", "unit"]
theorem bk_dist {j : Nat} {ds : List PyData} (b : BookL j ds) : Dist (bkOf (.tuple ds)) := by
  unfold Dist bkOf
  rw [List.pairwise_map]
  exact b.up.imp fun z => less_ne z
theorem lookN_any {x : Str} : ∀ {l : List (Str × Int)}, (lookN l x).isSome = l.any fun p => decide (p.1 = x)
  | [] => rfl
  | p :: l => by
    rw [lookN_cons, List.any_cons]
    by_cases e : p.1 = x
    · rw [if_pos e, decide_eq_true e]
      rfl
    · rw [if_neg e, decide_eq_false e]
      exact lookN_any
theorem putI_len1 {l : List (Str × Int)} {x : Str} {v : Int} : (putI l x v).length ≤ l.length + 1 := by
  unfold putI
  split
  · rw [List.length_map]
    omega
  · rw [List.length_append, List.length_singleton]
    omega
def cg (hw : List (Str × Int)) (x : Str) : Int := (lookN hw x).getD (10 ^ 6)
def ct (hw : List (Str × Int)) : Nat → PyData → Int
  | n + 1, .tuple [.str w, a, b] => mnI (10 ^ 6) (1 + (if wE w = true then mnI (ct hw n a) (ct hw n b) else ct hw n a + ct hw n b))
  | _, .tuple [.str _, .str x] => mnI (10 ^ 6) (1 + cg hw x)
  | _, .tuple [.str w] => if decide (V.str w = V.str "none") = true then 10 ^ 6 else 1
  | _, _ => 0
theorem ct_one {hw : List (Str × Int)} {n : Nat} {w : Str} : ct hw n (.tuple [.str w]) = if decide (V.str w = V.str "none") = true then 10 ^ 6 else 1 := by cases n <;> rfl
theorem ct_nm {hw : List (Str × Int)} {n : Nat} {w x : Str} : ct hw n (.tuple [.str w, .str x]) = mnI (10 ^ 6) (1 + cg hw x) := by cases n <;> rfl
theorem ct_two {hw : List (Str × Int)} {n : Nat} {w : Str} {a b : PyData} : ct hw (n + 1) (.tuple [.str w, a, b]) = mnI (10 ^ 6) (1 + (if wE w = true then mnI (ct hw n a) (ct hw n b) else ct hw n a + ct hw n b)) := rfl
theorem ct_mono {hw hw' : List (Str × Int)} (h : ∀ x, cg hw' x ≤ cg hw x) : ∀ (n : Nat) (d : PyData), fB n d = true → ct hw' n d ≤ ct hw n d := by
  intro n
  induction n with
  | zero => intro d f; cases f
  | succ n ih =>
    intro d f
    rcases fB_cases f with ⟨w, rfl, _⟩ | ⟨w, x, rfl, _, _⟩ | ⟨m, w, a, b, en, rfl, _, ha, hb⟩
    · rw [ct_one, ct_one]
      exact Int.le_refl _
    · rw [ct_nm, ct_nm]
      exact mnI_mono (Int.le_refl _) (by have := h x; omega)
    · have en' : n = m := by omega
      subst en'
      have ia := ih a ha
      have ib := ih b hb
      rw [ct_two, ct_two]
      refine mnI_mono (Int.le_refl _) ?_
      by_cases e : wE w = true
      · rw [if_pos e, if_pos e]
        have := mnI_mono ia ib
        omega
      · rw [if_neg e, if_neg e]
        omega
theorem ct_top {hw : List (Str × Int)} : ∀ (n : Nat) (d : PyData), fB n d = true → ct hw n d ≤ 10 ^ 6 := by
  intro n d f
  cases n with
  | zero => cases f
  | succ n =>
    rcases fB_cases f with ⟨w, rfl, _⟩ | ⟨w, x, rfl, _, _⟩ | ⟨m, w, a, b, en, rfl, _, ha, hb⟩
    · rw [ct_one]
      split <;> decide
    · rw [ct_nm]
      exact mnI_le.1
    · have en' : n = m := by omega
      subst en'
      rw [ct_two]
      exact mnI_le.1
theorem ct_pos {hw : List (Str × Int)} (h : ∀ x, 1 ≤ cg hw x) : ∀ (n : Nat) (d : PyData), fB n d = true → 1 ≤ ct hw n d := by
  intro n
  induction n with
  | zero => intro d f; cases f
  | succ n ih =>
    intro d f
    rcases fB_cases f with ⟨w, rfl, _⟩ | ⟨w, x, rfl, _, _⟩ | ⟨m, w, a, b, en, rfl, _, ha, hb⟩
    · rw [ct_one]
      split <;> decide
    · rw [ct_nm]
      exact mnI_ge (by decide) (by have := h x; omega)
    · have en' : n = m := by omega
      subst en'
      have ia := ih a ha
      have ib := ih b hb
      rw [ct_two]
      refine mnI_ge (by decide) ?_
      by_cases e : wE w = true
      · rw [if_pos e]
        have := mnI_ge ia ib
        omega
      · rw [if_neg e]
        omega
theorem ct_fuel {hw : List (Str × Int)} : ∀ {n m : Nat} {d : PyData}, fB n d = true → fB m d = true → ct hw m d = ct hw n d := by
  intro n
  induction n with
  | zero => intro m d f; cases f
  | succ n ih =>
    intro m d f g
    cases m with
    | zero => cases g
    | succ m =>
      rcases fB_cases f with ⟨w, rfl, _⟩ | ⟨w, x, rfl, _, _⟩ | ⟨m', w, a, b, en, rfl, hw2, ha, hb⟩
      · rw [ct_one, ct_one]
      · rw [ct_nm, ct_nm]
      · have en' : n = m' := by omega
        subst en'
        rw [fB_two, hw2, Bool.true_and, Bool.and_eq_true] at g
        rw [ct_two, ct_two, ih ha g.1, ih hb g.2]
/-- costs that only fall -/
structure CoF (bk : List (Str × PyData)) (hw : List (Str × Int)) : Prop where
  fall : ∀ x k, lookB bk x = some k → ct hw 22 k ≤ cg hw x
  pos : ∀ x, 1 ≤ cg hw x
/-- one round more -/
def Rnd (bk : List (Str × PyData)) (old new : List (Str × Int)) : Prop := ∀ x, lookN new x = (lookB bk x).map fun k => ct old 22 k
theorem Rnd.cg {bk : List (Str × PyData)} {old new : List (Str × Int)} (r : Rnd bk old new) (x : Str) : cg new x = match lookB bk x with | some k => ct old 22 k | none => 10 ^ 6 := by
  unfold Toy.cg
  rw [r x]
  cases lookB bk x <;> rfl
theorem cg_nil (x : Str) : cg [] x = 10 ^ 6 := rfl
theorem cof_first {bk : List (Str × PyData)} (fm : ∀ x k, lookB bk x = some k → fB 22 k = true) : CoF bk [] := ⟨fun x k l => by
  rw [cg_nil]
  exact ct_top 22 k (fm x k l), fun x => by rw [cg_nil]; decide⟩
theorem Rnd.cof {bk : List (Str × PyData)} {old new : List (Str × Int)} (fm : ∀ x k, lookB bk x = some k → fB 22 k = true) (r : Rnd bk old new) (c : CoF bk old) (low : ∀ x, Toy.cg old x ≤ 10 ^ 6) (ab : ∀ x, lookB bk x = none → Toy.cg old x = 10 ^ 6) : CoF bk new := by
  have le : ∀ x, Toy.cg new x ≤ Toy.cg old x := fun x => by
    rw [r.cg]
    cases e : lookB bk x with
    | none => show (10 ^ 6 : Int) ≤ _; rw [ab x e]; exact Int.le_refl _
    | some k => exact c.fall x k e
  refine ⟨fun x k l => ?_, fun x => ?_⟩
  · rw [r.cg, l]
    exact ct_mono le 22 k (fm x k l)
  · rw [r.cg]
    cases e : lookB bk x with
    | none => show (1 : Int) ≤ 10 ^ 6; decide
    | some k => exact ct_pos c.pos 22 k (fm x k e)
def spCo (K : PySem.W.Frag) (n : Nat) : Sp := fun vs H Q _ => ∃ (t : Addr) (v : V) (kvs : List (Key × V)) (hw : List (Str × Int)) (d : PyData), vs = [v, .ref t] ∧ H t = some (.dK kvs) ∧ Paired HvR kvs hw ∧ Dq K H v d ∧ fB n d = true ∧ ∀ H', Same H H' → Q (.int (ct hw n d)) H'
def spCs (K : PySem.W.Frag) : Sp := fun vs H Q _ => ∃ (v : V) (ds : List PyData) (j : Nat), vs = [v] ∧ Dq K H v (.tuple ds) ∧ BookL j ds ∧ j ≤ 2 ∧
  ∀ (t : Addr) (H' : Hp) (kvs : List (Key × V)) (hw : List (Str × Int)), Same H H' → H t = none → H' t = some (.dK kvs) → Paired HvR kvs hw → CoF (bkOf (.tuple ds)) hw → Q (.ref t) H'
section
variable {P : Program} {w : World} {K : PySem.W.Frag} {mg : Str → Option Value} {base : Heap}
theorem scCo : FnScope ["kind", "costs", "one", "two"] ["kind", "costs"] (defScope sCo) := ⟨rfl, rfl, rfl, by decide +kernel, rfl, by decide +kernel, by decide +kernel⟩
theorem scCs : FnScope ["book", "found", "lap", "later", "name", "kind"] ["book"] (defScope sCs) := ⟨rfl, rfl, rfl, by decide +kernel, rfl, by decide +kernel, by decide +kernel⟩
theorem ok_cost {f : Addr} {fd : FuncData} {n k : Nat} (F : Fun K "_law_cost" "_law_cost" sCo f fd) (MI : mg "min" = none) (R : Gv P w K mg base k "_law_cost" f fd ["kind", "costs"] (spCo K n)) : FnOk P w K mg base CX0 (k + 1) f fd ["kind", "costs"] (spCo K (n + 1)) := by
  refine F.ok scCo (fun vs H Q E h => ?_) (fun cdv A outer s H vs Q E hr h => ?_)
  · obtain ⟨t, v, kvs, hw, d, rfl, _⟩ := h
    rfl
  obtain ⟨t, v, kvs, hw, d, rfl, ht, hp, hv, fm, q⟩ := h
  have hu1 := Nat.lt_of_le_of_lt (Nat.add_le_add_left (by decide : 1 ≤ 64) _) hr.units
  refine ⟨_, (pss_cons (ps_if (pt_cmpR op_in_seq (pe_ix ix_tup (pv 0) pe_int (fun _ _ => rfl)) (pe_tup (pa_cons pe_str (pa_cons pe_str pa_nil))) (by rfl)) (pss_one (ps_ret pe_int)) pss_nil)
    (pss_cons (ps_if (pt_cmpR op_eq (pe_ix ix_tup (pv 0) pe_int (fun _ _ => rfl)) pe_str (nomark _)) (pss_one (ps_ret (pe_op op_pow pe_int pe_int))) pss_nil)
    (pss_cons (ps_if (pt_cmpR op_eq (pe_ix ix_tup (pv 0) pe_int (fun _ _ => rfl)) pe_str (nomark _)) (pss_one (ps_ret (pe_callB (call_min2 rfl) rfl MI (by decide +kernel) (pa_cons (pe_op op_pow pe_int pe_int) (pa_cons (pe_op op_add pe_int (pe_dget2 hu1 (pv 1) (pe_ix ix_tup (pv 0) pe_int (fun _ _ => rfl)) (pe_op op_pow pe_int pe_int) ⟨rfl, rfl, rfl, rfl⟩)) pa_nil))))) pss_nil)
    (pss_cons (ps_par (i := 2) (j := 3) rfl scCo.nd rfl rfl (by decide) rfl rfl (pa_cons (pe_call R.ok hr rfl R.m R.k R.b .nil pass0 (pa_cons (pe_ix ix_tup (pv 0) pe_int (fun _ _ => rfl)) (pa_cons (pv 1) pa_nil))) (pa_cons (pe_call R.ok hr rfl R.m R.k R.b .nil pass0 (pa_cons (pe_ix ix_tup (pv 0) pe_int (fun _ _ => rfl)) (pa_cons (pv 1) pa_nil))) pa_nil)) (by rfl))
    (pss_one (ps_ret (pe_callB (call_min2 rfl) rfl MI (by decide +kernel) (pa_cons (pe_op op_pow pe_int pe_int) (pa_cons (pe_op op_add pe_int (pe_ifExp (pt_cmpR op_eq (pe_ix ix_tup (pv 0) pe_int (fun _ _ => rfl)) pe_str (nomark _)) (pe_op op_add (pv 2) (pv 3)) (pe_callB (call_min2 rfl) rfl MI (by decide +kernel) (pa_cons (pv 2) (pa_cons (pv 3) pa_nil))))) pa_nil))))))))), ?_⟩
  have z3 : ∀ {k : Nat}, k ≤ 20 → k ≤ sizeLine := fun h => Nat.le_trans h (by decide)
  rcases fB_cases fm with ⟨w, rfl, hw3⟩ | ⟨w, x, rfl, hw1, _⟩ | ⟨m, w, a, b, en, rfl, hw2, ha, hb⟩
  · obtain ⟨ad, xs, rfl, hx, hA⟩ := dq_tuple hv
    obtain ⟨x0, rs, rfl, g0, hA⟩ := dqAll_cons hA
    cases g0
    refine ⟨_, rfl, ad, _, 0, _, rfl, rfl, hx, atI_nat (j := 0) rfl, z3 (by show 2 ≤ 20; decide), fun t0 h0 => ?_⟩
    have s0 := same_new h0 (.tup (lTu.map V.str))
    refine ⟨t0, _, rfl, .inr (SqT.of upd_same), rfl, flat_strs lTu, _, rfl, ?_⟩
    show if inV (V.str w) (lTu.map V.str) = true then _ else _
    have z := q _ s0
    rw [ct_one] at z
    by_cases e : w = "none"
    · subst e
      rw [if_pos (by decide +kernel)] at z
      refine iteN (by decide +kernel) ?_
      refine ⟨_, rfl, ad, _, 0, _, rfl, rfl, s0.seqT hx, atI_nat (j := 0) rfl, rfl, _, rfl, iteY (by decide +kernel) ?_⟩
      exact ⟨_, _, rfl, rfl, ⟨by decide, by decide, by decide⟩, z⟩
    · have yes : inV (V.str w) (lTu.map V.str) = true ∧ decide (V.str w = V.str "none") = false := by
        rcases w_three hw3 with rfl | rfl | rfl
        · decide +kernel
        · exact absurd rfl e
        · decide +kernel
      rw [yes.2, if_neg Bool.false_ne_true] at z
      exact iteY yes.1 z
  · have hw' := w_one hw1
    injection hw' with hw'
    subst hw'
    obtain ⟨ad, xs, rfl, hx, hA⟩ := dq_tuple hv
    obtain ⟨x0, rs, rfl, g0, hA⟩ := dqAll_cons hA
    obtain ⟨x1, rs, rfl, g1, hA⟩ := dqAll_cons hA
    cases g0
    cases g1
    refine ⟨_, rfl, ad, _, 0, _, rfl, rfl, hx, atI_nat (j := 0) rfl, z3 (by show 2 ≤ 20; decide), fun t0 h0 => ?_⟩
    have s0 := same_new h0 (.tup (lTu.map V.str))
    refine ⟨t0, _, rfl, .inr (SqT.of upd_same), rfl, flat_strs lTu, _, rfl, ?_⟩
    show if inV (V.str "name") (lTu.map V.str) = true then _ else _
    refine iteN (by decide +kernel) ?_
    have hx' := s0.seqT hx (K := K)
    refine ⟨_, rfl, ad, _, 0, _, rfl, rfl, hx', atI_nat (j := 0) rfl, rfl, _, rfl, iteN (by decide +kernel) ?_⟩
    refine ⟨_, rfl, ad, _, 0, _, rfl, rfl, hx', atI_nat (j := 0) rfl, rfl, _, rfl, iteY (by decide +kernel) ?_⟩
    have gk := DGet.k (k := .inr x) (s0 _ _ ht)
    rw [hv_look hp] at gk
    refine ⟨_, _, rfl, rfl, ⟨by decide, by decide, by decide⟩, _, rfl, t, rfl, .inl ⟨kvs, .inl (s0 _ _ ht)⟩, _, rfl, ad, _, 1, _, rfl, rfl, hx', atI_nat (j := 1) rfl, _, _, rfl, rfl, ⟨by decide, by decide, by decide⟩, _, gk, ?_⟩
    have z := q _ s0
    rw [ct_nm] at z
    have eg : ((lookN hw x).map V.int).getD (.int (10 ^ 6)) = .int (cg hw x) := by
      unfold cg
      cases lookN hw x <;> rfl
    refine ⟨_, _, rfl, eg, _, _, rfl, z⟩
  · have en' : n = m := by omega
    subst en'
    obtain ⟨ad, xs, rfl, hx, hA⟩ := dq_tuple hv
    obtain ⟨x0, rs, rfl, g0, hA⟩ := dqAll_cons hA
    obtain ⟨x1, rs, rfl, g1, hA⟩ := dqAll_cons hA
    obtain ⟨x2, rs, rfl, g2, hA⟩ := dqAll_cons hA
    cases g0
    have no : inV (V.str w) (lTu.map V.str) = false := by rcases w_two hw2 with z | z <;> rw [z] <;> decide +kernel
    have no1 : decide (V.str w = V.str "name") = false := by rcases w_two hw2 with z | z <;> rw [z] <;> decide +kernel
    have no2 : decide (V.str w = V.str "none") = false := by rcases w_two hw2 with z | z <;> rw [z] <;> decide +kernel
    refine ⟨_, rfl, ad, _, 0, _, rfl, rfl, hx, atI_nat (j := 0) rfl, z3 (by show 2 ≤ 20; decide), fun t0 h0 => ?_⟩
    have s0 := same_new h0 (.tup (lTu.map V.str))
    refine ⟨t0, _, rfl, .inr (SqT.of upd_same), rfl, flat_strs lTu, _, rfl, ?_⟩
    show if inV (V.str w) (lTu.map V.str) = true then _ else _
    refine iteN no ?_
    have hx' := s0.seqT hx (K := K)
    refine ⟨_, rfl, ad, _, 0, _, rfl, rfl, hx', atI_nat (j := 0) rfl, rfl, _, rfl, iteN no2 ?_⟩
    refine ⟨_, rfl, ad, _, 0, _, rfl, rfl, hx', atI_nat (j := 0) rfl, rfl, _, rfl, iteN no1 ?_⟩
    refine ⟨_, rfl, ad, _, 1, _, rfl, rfl, hx', atI_nat (j := 1) rfl, _, rfl, t, x1, kvs, hw, a, rfl, s0 _ _ ht, hp, Dq.mono s0 _ _ g1, ha, fun H1 s1 => ?_⟩
    have s01 := s0.trans s1
    refine ⟨_, rfl, ad, _, 2, _, rfl, rfl, s01.seqT hx, atI_nat (j := 2) rfl, _, rfl, t, x2, kvs, hw, b, rfl, s01 _ _ ht, hp, Dq.mono s01 _ _ g2, hb, fun H2 s2 => ?_⟩
    have z := q _ (s01.trans s2)
    rw [ct_two] at z
    refine ⟨_, _, rfl, ?_⟩
    refine ⟨_, _, rfl, rfl, ⟨by decide, by decide, by decide⟩, _, rfl, ad, _, 0, _, rfl, rfl, (s01.trans s2).seqT hx, atI_nat (j := 0) rfl, rfl, _, rfl, ?_⟩
    rcases w_two hw2 with y | y
    · injection y with y
      subst y
      rw [show wE "pair" = false by decide +kernel, if_neg Bool.false_ne_true] at z
      refine iteT ⟨_, rfl, _, rfl, _, _, rfl, rfl, _, _, rfl, rfl, _, _, rfl, ?_⟩
      exact z
    · injection y with y
      subst y
      rw [show wE "either" = true by decide +kernel, if_pos rfl] at z
      refine iteF ⟨_, rfl, _, rfl, _, _, rfl, _, _, rfl, rfl, _, _, rfl, ?_⟩
      exact z
theorem none_co {f : Addr} {fd : FuncData} {k : Nat} : FnOk P w K mg base CX0 k f fd ["kind", "costs"] (spCo K 0) := ⟨fun _ _ _ _ ⟨_, _, _, _, _, _, _, _, _, h, _⟩ => (nomatch h), fun _ _ _ _ _ _ _ _ _ _ _ _ _ ⟨_, _, _, _, _, _, _, _, _, h, _⟩ => (nomatch h)⟩
theorem costsF {f : Addr} {fd : FuncData} (F : Fun K "_law_cost" "_law_cost" sCo f fd) (bF : Binds K fd ["kind", "costs"] []) (mF : mg "_law_cost" = some (.ref f)) (MI : mg "min" = none) : ∀ n : Nat, Gv P w K mg base n "_law_cost" f fd ["kind", "costs"] (spCo K n)
  | 0 => ⟨none_co, bF, F.kp, mF⟩
  | n + 1 => ⟨ok_cost F MI (costsF F bF mF MI n), bF, F.kp, mF⟩
theorem ok_costs {f gC : Addr} {fd dC : FuncData} (F : Fun K "_law_costs" "_law_costs" sCs f fd) (RN : Nr mg) (T : Nm mg) (CO : Gv P w K mg base 22 "_law_cost" gC dC ["kind", "costs"] (spCo K 22)) : FnOk P w K mg base CX0 23 f fd ["book"] (spCs K) := by
  refine F.ok scCs (fun vs H Q E h => ?_) (fun cdv A outer s H vs Q E hr h => ?_)
  · obtain ⟨v, ds, j, rfl, _⟩ := h
    rfl
  obtain ⟨v, ds, j, rfl, hd, bL, hj, q⟩ := h
  have hu1 := Nat.lt_of_le_of_lt (Nat.add_le_add_left (by decide : 1 ≤ 64) _) hr.units
  refine ⟨_, (pss_cons (ps_set (i := 1) scCs.nd rfl (.inl rfl) pe_dnewK)
    (pss_cons (ps_for PassesOwn.never rfl (pi_range1 (by rfl) RN.range (pa_cons (pe_callB call_len_seq rfl T.len PySem.boot_len (pa_cons (pv 0) pa_nil)) pa_nil)) (pg_name (i := 2) scCs.nd rfl (.inl rfl)) (pss_cons (ps_set (i := 3) scCs.nd rfl (.inl rfl) pe_dnewK)
    (pss_cons (ps_for PassesOwn.never rfl (pi_tup (pv 0)) (pg_tup rfl (pgs_cons (pg_name (i := 4) scCs.nd rfl (.inl rfl)) (pgs_cons (pg_name (i := 5) scCs.nd rfl (.inl rfl)) pgs_nil))) (pss_one (ps_dput hu1 (pv 3) (pv 4) (pe_call CO.ok hr rfl CO.m CO.k CO.b .nil pass0 (pa_cons (pv 5) (pa_cons (pv 1) pa_nil))) rfl)))
    (pss_one (ps_set (i := 1) scCs.nd rfl (.inl rfl) (pv 3))))))
    (pss_one (ps_ret (pv 1))))), ?_⟩
  have zs : ∀ {k : Nat}, k ≤ 200 → k < sizeLine := fun h => Nat.lt_of_le_of_lt h (by decide)
  obtain ⟨a, xs, rfl, hx, hA⟩ := dq_tuple hd
  have hl := hA.len
  have dist := bk_dist bL
  have hbl : (bkOf (.tuple ds)).length = ds.length := List.length_map ..
  have few := bk_few bL hj
  have fm : ∀ x k, lookB (bkOf (.tuple ds)) x = some k → fB 22 k = true := fun x k l => (look_fm bL hj l).f
  refine fun o0 ho0 => ?_
  have s0 := same_new ho0 (.dK [])
  have e0 : upd H o0 (.dK []) o0 = some (.dK []) := upd_same
  generalize upd H o0 (.dK []) = H0 at s0 e0 ⊢
  refine ⟨_, rfl, a, _, rfl, .inr (s0.seqT hx), _, rfl, ?_⟩
  refine ⟨by omega, by omega, ?_⟩
  refine for_it walk_range (fun i σ H' => ∃ t kvs hw c2 c3 c4 c5, σ = [some (.ref a), some (.ref t), c2, c3, c4, c5] ∧ Same H H' ∧ H t = none ∧ H' t = some (.dK kvs) ∧ Paired HvR kvs hw ∧ CoF (bkOf (.tuple ds)) hw ∧ (∀ x, cg hw x ≤ 10 ^ 6) ∧ ∀ x, lookB (bkOf (.tuple ds)) x = none → cg hw x = 10 ^ 6)
    ⟨o0, [], [], none, none, none, none, rfl, s0, ho0, e0, .nil, cof_first fm, fun x => Int.le_refl _, fun x _ => rfl⟩ (fun _ _ _ _ _ => trivial) ?_ ?_
  · rintro i y0 σ H1' H1 hi ⟨t, kvs, hw, c2, c3, c4, c5, rfl, s1, nt, ht, pr, cof, low, ab⟩ ⟨rfl, rfl⟩
    refine fun o2 ho2 => ?_
    have s2 := same_new ho2 (.dK [])
    have e2 : upd H1 o2 (.dK []) o2 = some (.dK []) := upd_same
    have ht2 := s2 _ _ ht
    generalize upd H1 o2 (.dK []) = H2 at s2 e2 ht2 ⊢
    have s12 := s1.trans s2
    have nto : t ≠ o2 := ne_of_none ht ho2
    refine ⟨_, rfl, a, rfl, ⟨_, s12.seqT hx⟩, ?_⟩
    refine for_it (walk_tup (xs := xs)) (fun i3 σ H' => ∃ kv2 hw2 c4 c5, σ = [some (.ref a), some (.ref t), some (.int (0 + (i : Int))), some (.ref o2), c4, c5] ∧ Same H H' ∧ H' t = some (.dK kvs) ∧ H' o2 = some (.dK kv2) ∧ Paired HvR kv2 hw2 ∧ kv2.length ≤ i3 ∧ ∀ x, lookN hw2 x = (lookB ((bkOf (.tuple ds)).take i3) x).map fun k => ct hw 22 k)
      ⟨[], [], _, _, rfl, s12, ht2, e2, .nil, Nat.le_refl _, fun x => rfl⟩ (fun i3 σ H' _ ⟨_, _, _, _, _, z, _⟩ => z.seqT hx) ?_ ?_
    · rintro i3 y0 σ H3' H3 hi3 ⟨kv2, hw2, c4, c5, rfl, s3, ht3, ho3, pr3, lk3, lo3⟩ ⟨rfl, hy⟩
      obtain ⟨e, he, hde⟩ := dqAll_at _ _ _ hA hy
      have me := List.mem_of_getElem? he
      obtain ⟨y, k, rfl, _⟩ := bL.rows e me
      have hb := bk_get he
      have fk := (row_fm bL hj me).1
      obtain ⟨ad, ws, rfl, hw', hB⟩ := dq_tuple hde
      obtain ⟨x0, rs, rfl, q0, hB⟩ := dqAll_cons hB
      obtain ⟨x1, rs, rfl, q1, hB⟩ := dqAll_cons hB
      obtain rfl := dqAll_nil hB
      cases q0
      refine ⟨ad, _, rfl, s3.seqT hw', rfl, _, _, rfl, _, _, rfl, rfl, ?_⟩
      refine ⟨_, rfl, _, rfl, t, x1, kvs, hw, k, rfl, ht3, pr, Dq.mono s3 _ _ q1, fk.f, fun H4 s4 => ?_⟩
      have ho4 := s4 _ _ ho3
      have la : kv2.length = hw2.length := pr3.length
      refine ⟨_, rfl, _, rfl, o2, _, rfl, DPut.k (k := .inr y) ho4 (zs (by omega)), ?_⟩
      refine ⟨_, _, _, _, rfl, fun x u z => by rw [upd_ne (ne_of_none (s1 _ _ z) ho2)]; exact s4 _ _ (s3 _ _ z), by rw [upd_ne nto]; exact s4 _ _ ht3, upd_same, hv_put pr3, ?_, fun x => ?_⟩
      · have z := putI_len1 (l := hw2) (x := y) (v := ct hw 22 k)
        have z2 := (hv_put (x := y) (v := ct hw 22 k) pr3).length
        omega
      · rw [lookN_put, List.take_add_one, hb]
        have nw : ((bkOf (.tuple ds)).take i3).any (fun p => decide (p.1 = y)) = false := by
          rw [Bool.eq_false_iff]
          intro z
          obtain ⟨p, mp, ep⟩ := List.any_eq_true.mp z
          have ep := of_decide_eq_true ep
          obtain ⟨n, hn⟩ := List.getElem?_of_mem mp
          rw [List.getElem?_take] at hn
          by_cases c : n < i3
          · rw [if_pos c] at hn
            obtain ⟨l1, e1⟩ := List.getElem?_eq_some_iff.mp hn
            obtain ⟨l2, e2⟩ := List.getElem?_eq_some_iff.mp hb
            have := List.pairwise_iff_getElem.mp dist n i3 l1 l2 c
            rw [e1, e2] at this
            exact this ep
          · rw [if_neg c] at hn
            cases hn
        show _ = (lookB (_ ++ [(y, k)]) x).map _
        rw [look_snoc y k x _ nw]
        by_cases c : y = x
        · rw [if_pos c, if_pos c.symm]
          rfl
        · rw [if_neg c, if_neg (fun z => c z.symm)]
          exact lo3 x
    · rintro σ H3 ⟨kv2, hw2, c4, c5, rfl, s3, ht3, ho3, pr3, lk3, lo3⟩
      rw [hl, ← hbl, List.take_length] at lo3
      have r : Rnd (bkOf (.tuple ds)) hw hw2 := lo3
      refine ⟨_, rfl, o2, kv2, hw2, _, _, _, _, rfl, s3, s1.free ho2, ho3, pr3, r.cof fm cof low ab, fun x => ?_, fun x nx => ?_⟩
      · rw [r.cg]
        cases e : lookB (bkOf (.tuple ds)) x with
        | none => exact Int.le_refl _
        | some k => exact ct_top 22 k (fm x k e)
      · rw [r.cg, nx]
  · rintro σ H1 ⟨t, kvs, hw, c2, c3, c4, c5, rfl, s1, nt, ht, pr, cof, low, ab⟩
    exact ⟨_, rfl, q t H1 kvs hw s1 nt ht pr cof⟩
end
end Toy
set_option Elab.async false
set_option linter.all false
set_option maxRecDepth 100000
set_option maxHeartbeats 4000000
namespace L2
open PySem PySem.Spec PyProof.Rows
/-- a text, so often -/
def rMulT : R2 := fun x y H Q => ∃ (a : Str) (n : Int), x = .str a ∧ y = .int n ∧ 2 ≤ n ∧ n ≤ 1000 ∧ 1 ≤ a.length ∧ a.length ≤ 1000 ∧ ((List.replicate n.toNat a.cps).foldl (· ++ ·) #[]).size ≤ sizeLine ∧ Q (.str ⟨(List.replicate n.toNat a.cps).foldl (· ++ ·) #[]⟩) H
theorem op_mulT {X : Cx} : OpR X (binaryOp .Mult) rMulT := by
  intro pins s σ H x y v u Q I rx ry h
  obtain ⟨a, n, rfl, rfl, h1, h2, l1, l2, hz, q⟩ := h
  obtain ⟨t, rfl⟩ := rx
  obtain ⟨t2, rfl⟩ := ry
  have nb : (n == 1 || a.length == 0) = false := by
    rw [Bool.or_eq_false_iff]
    exact ⟨beq_eq_false_iff_ne.mpr (by omega), beq_eq_false_iff_ne.mpr (by omega)⟩
  refine PySem.P.mul_str ?_ (fun _ _ => ?_) (fun _ _ => ?_) ?_
  · rw [decide_eq_false (by omega), decide_eq_false (by omega)]
    rfl
  · have z : (a.length : Int) ≤ (2 ^ 63 - 1) / n := by
      rw [Int.le_ediv_iff_mul_le (by omega)]
      have h3 : (a.length : Int) * n ≤ 1000 * n := Int.mul_le_mul_of_nonneg_right (by omega) (by omega)
      omega
    omega
  · have : a.length * n.toNat ≤ 1000 * 1000 := Nat.mul_le_mul l2 (by omega)
    unfold Builtin.Str.tooLong
    exact decide_eq_false (by
      have : (1000 * 1000 : Nat) ≤ sizeLine := by decide
      omega)
  · rw [if_neg (by omega), if_neg (by rw [nb]; exact Bool.false_ne_true)]
    exact ⟨hz, .str _, H, I.tok _, ⟨_, rfl⟩, q⟩
end L2
namespace Toy
open PySem L2 PyProof.Rows
abbrev sNu : Stmt := top 73
/-! ### a whole number drawn, of up to 400 figures -/
def spNu : Sp := fun vs H Q _ => ∃ wl : Addr, vs = [.ref wl] ∧ WellAt H wl ∧ ∀ (i : Int) (H' : Hp), -(10 ^ 400) ≤ i → i ≤ 10 ^ 400 → WellAt H' wl → But wl H H' → Q (.int i) H'
def n7 : Int := 777777777777777777777777777777777777777777777777777777777777
def n31 : Int := 3131313131313131313131313131313131313131313131313131313131313131313131313131313131313131313131313131313131313131313131313131313131313131313131313131313131313131313131313131313131313131313131313131313131313131313131313131313131313131313131313131313131313131313131313131313131313131313131313131313131313131313131313131313131313131313131313131313131313131313131313131313131313131313131313131313131313131
def n8 : Int := 8888888888888888888888888888888888888888888888888888888888888888888888888888888888888888888888888888888888888888888888888888888888888888888888888888888888888888888888888888888888888888888888888888888888888888888888888888888888888888888888888888888888888888888888888888888888888888888888888888888888888888888888888888888888888888888888888888888888888888888888888888888888888888888888888888888888888888
theorem n7_is : PySem.intText? ⟨(List.replicate (60 : Int).toNat 55).toArray⟩ = some n7 := by decide +kernel
theorem n31_is : PySem.intText? ⟨(List.replicate (200 : Int).toNat (("31" : Str).cps)).foldl (· ++ ·) #[]⟩ = some n31 := by decide +kernel
theorem n8_is : PySem.intText? ⟨(List.replicate (400 : Int).toNat 56).toArray⟩ = some n8 := by decide +kernel
theorem great_ok : (-(10 ^ 400) ≤ n7 ∧ n7 ≤ 10 ^ 400) ∧ (-(10 ^ 400) ≤ -n31 ∧ -n31 ≤ 10 ^ 400) ∧ (-(10 ^ 400) ≤ n8 ∧ n8 ≤ 10 ^ 400) := by decide +kernel
section
variable {P : Program} {w : World} {K : PySem.W.Frag} {mg : Str → Option Value} {base : Heap}
theorem scNu : FnScope ["well", "branch"] ["well"] (defScope sNu) := ⟨rfl, rfl, rfl, by decide +kernel, rfl, by decide +kernel, by decide +kernel⟩
theorem ok_number {f gD gP : Addr} {fd dD dP : FuncData} (F : Fun K "_law_number" "_law_number" sNu f fd) (NI : mg "int" = none) (D : Gv P w K mg base 1 "_law_draw" gD dD ["well", "many"] spDraw) (PK : Gv P w K mg base 2 "_law_pick" gP dP ["well", "some"] (spPick K)) : FnOk P w K mg base CX0 3 f fd ["well"] spNu := by
  refine F.ok scNu (fun vs H Q E h => ?_) (fun cdv A outer s H vs Q E hr h => ?_)
  · obtain ⟨wl, rfl, _⟩ := h
    rfl
  obtain ⟨wl, rfl, st, q⟩ := h
  have hr1 : Room 1 (A.deeper _) := hr.mono (by omega)
  have hr2 : Room 2 (A.deeper _) := hr
  refine ⟨_, (pss_cons (ps_set (i := 1) scNu.nd rfl (.inl rfl) (pe_call D.ok hr1 rfl D.m D.k D.b .nil pass0 (pa_cons (pv 0) (pa_cons pe_int pa_nil))))
    (pss_cons (ps_if (pt_cmpR op_eq (pv 1) pe_int (nomark _)) (pss_one (ps_ret (pe_call PK.ok hr2 rfl PK.m PK.k PK.b .nil pass0 (pa_cons (pv 0) (pa_cons (pe_tup (pa_cons (pe_op op_pow pe_int pe_int) (pa_cons (pe_op op_sub pe_int (pe_op op_pow pe_int pe_int)) (pa_cons pe_int (pa_cons (pe_un un_neg pe_int) (pa_cons (pe_callTy call_int_str rfl NI (by decide +kernel) (pa_cons (pe_op op_mulS pe_str pe_int) pa_nil)) (pa_cons (pe_un un_neg (pe_callTy call_int_str rfl NI (by decide +kernel) (pa_cons (pe_op op_mulT pe_str pe_int) pa_nil))) (pa_cons (pe_callTy call_int_str rfl NI (by decide +kernel) (pa_cons (pe_op op_mulS pe_str pe_int) pa_nil)) pa_nil)))))))) pa_nil))))) pss_nil)
    (pss_one (ps_ret (pe_ifExp (pt_cmpR op_lt (pv 1) pe_int (nomark _)) (pe_call D.ok hr1 rfl D.m D.k D.b .nil pass0 (pa_cons (pv 0) (pa_cons pe_int pa_nil))) (pe_op op_sub (pe_call D.ok hr1 rfl D.m D.k D.b .nil pass0 (pa_cons (pv 0) (pa_cons pe_int pa_nil))) pe_int)))))), ?_⟩
  refine ⟨_, rfl, wl, 9, rfl, by decide, by decide, st, fun f0 H1 l0 g0 w1 b1 => ?_⟩
  refine ⟨_, rfl, rfl, _, rfl, ?_⟩
  refine ite2 (fun g => ?_) (fun g => ?_)
  · refine ⟨_, rfl, _, _, rfl, rfl, ⟨by decide, by decide, by decide⟩, _, _, rfl, rfl, ⟨by decide, by decide, by decide⟩, _, _, rfl, rfl, _, rfl, ?_⟩
    refine ⟨55, 60, by decide +kernel, rfl, by decide, by decide, _, n7, rfl, n7_is, by decide +kernel, ?_⟩
    refine ⟨"31", 200, rfl, rfl, by decide, by decide, by decide +kernel, by decide +kernel, by decide +kernel, _, n31, rfl, n31_is, by decide +kernel, _, rfl, ?_⟩
    refine ⟨56, 400, by decide +kernel, rfl, by decide, by decide, _, n8, rfl, n8_is, by decide +kernel, ?_⟩
    refine ⟨Nat.le_trans (by decide : 7 ≤ 200) (by decide), fun p hp => ?_⟩
    obtain ⟨k7, k31, k8⟩ := great_ok
    refine ⟨wl, p, [.int (10 ^ 20), .int (1 - 10 ^ 20), .int 65536, .int (-4096), .int n7, .int (-n31), .int n8], rfl, well_new w1 hp _, SqT.of upd_same, by show 1 ≤ 7; decide, by show 7 < 1073741824; decide, fun v H2 mv w2 b2 => ?_⟩
    have great : ∃ g : Int, v = .int g ∧ -(10 ^ 400) ≤ g ∧ g ≤ 10 ^ 400 := by
      rcases List.mem_cons.mp mv with e | mv
      · exact ⟨_, e, by decide +kernel, by decide +kernel⟩
      rcases List.mem_cons.mp mv with e | mv
      · exact ⟨_, e, by decide +kernel, by decide +kernel⟩
      rcases List.mem_cons.mp mv with e | mv
      · exact ⟨_, e, by decide +kernel, by decide +kernel⟩
      rcases List.mem_cons.mp mv with e | mv
      · exact ⟨_, e, by decide +kernel, by decide +kernel⟩
      rcases List.mem_cons.mp mv with e | mv
      · exact ⟨_, e, k7⟩
      rcases List.mem_cons.mp mv with e | mv
      · exact ⟨_, e, k31⟩
      exact ⟨_, List.mem_singleton.mp mv, k8⟩
    obtain ⟨gr, rfl, gl, gu⟩ := great
    exact q _ _ gl gu w2 ((b1.trans (But.new hp _)).trans b2)
  · have low : ∀ i : Int, -100 ≤ i → i ≤ 100 → -(10 ^ 400) ≤ i ∧ i ≤ 10 ^ 400 := fun i a c => ⟨Int.le_trans (by decide +kernel) a, Int.le_trans c (by decide +kernel)⟩
    refine ⟨_, rfl, _, _, rfl, rfl, _, rfl, ?_⟩
    refine ite2 (fun _ => ?_) (fun _ => ?_)
    · refine ⟨_, rfl, wl, 3, rfl, by decide, by decide, w1, fun f1 H2 l1 g1 w2 b2 => ?_⟩
      obtain ⟨a, c⟩ := low f1 (by omega) (by omega)
      exact q _ _ a c w2 (b1.trans b2)
    · refine ⟨_, rfl, wl, 23, rfl, by decide, by decide, w1, fun f1 H2 l1 g1 w2 b2 => ?_⟩
      obtain ⟨a, c⟩ := low (f1 - 9) (by omega) (by omega)
      refine ⟨_, _, rfl, rfl, ?_⟩
      exact q _ _ a c w2 (b1.trans b2)
end
end Toy
set_option Elab.async false
set_option linter.all false
set_option maxRecDepth 100000
set_option maxHeartbeats 4000000
namespace Toy
open PySem L2 PyProof.Rows
abbrev sGr : Stmt := top 74
theorem FmA.two {ds : List PyData} {w : Str} {a b : PyData} (h : FmA ds (.tuple [.str w, a, b])) : w2 w = true ∧ FmA ds a ∧ FmA ds b := by
  have f := h.f
  rw [fB_two, Bool.and_eq_true, Bool.and_eq_true] at f
  have m := h.m
  have nl := h.nl
  have kn := h.kn
  rw [ms_row] at m nl kn
  have tt : (txtB (.str w) && (txtB a && (txtB b && true))) = true := h.tx
  simp only [Bool.and_eq_true] at tt
  have fa := fB_fuel f.2.1 (by decide : 21 ≤ 22)
  have fb := fB_fuel f.2.2 (by decide : 21 ≤ 22)
  have ea := ms_fuel f.2.1 (by decide : 21 ≤ 22)
  have eb := ms_fuel f.2.2 (by decide : 21 ≤ 22)
  have mm : (ms 21 a).2.1 + (ms 21 b).2.1 + 1 ≤ 1200 := by
    have := two_parts (ms 21 a) (ms 21 b)
    omega
  exact ⟨f.1, ⟨fa, by rw [ea]; omega, tt.2.1, fun x mx => nl x (List.mem_append.mpr (.inl (by rw [ea] at mx; exact mx))), fun x mx => kn x (List.mem_append.mpr (.inl (by rw [ea] at mx; exact mx)))⟩,
    ⟨fb, by rw [eb]; omega, tt.2.2.1, fun x mx => nl x (List.mem_append.mpr (.inr (by rw [eb] at mx; exact mx))), fun x mx => kn x (List.mem_append.mpr (.inr (by rw [eb] at mx; exact mx)))⟩⟩
theorem FmA.nam {ds : List PyData} {x : Str} (h : FmA ds (kName x)) : ∃ k, lookB (bkOf (.tuple ds)) x = some k := Option.isSome_iff_exists.mp (h.kn x (show x ∈ [x] from List.mem_singleton.mpr rfl))
theorem FmA.head {ds : List PyData} {e : PyData} (h : FmA ds e) : (∃ w, e = .tuple [.str w] ∧ w3 w = true) ∨ (∃ x, e = kName x) ∨ ∃ w a b, e = .tuple [.str w, a, b] ∧ w2 w = true := by
  rcases fB_cases h.f with ⟨w, rfl, hw3⟩ | ⟨w, x, rfl, hw1, _⟩ | ⟨m, w, a, b, en, rfl, hw2, ha, hb⟩
  · exact .inl ⟨w, rfl, hw3⟩
  · have hw' := w_one hw1
    injection hw' with hw'
    subst hw'
    exact .inr (.inl ⟨x, rfl⟩)
  · exact .inr (.inr ⟨w, a, b, rfl, hw2⟩)
theorem ct_up {hw : List (Str × Int)} {ds : List PyData} {a : PyData} (f : FmA ds a) (g : fB 21 a = true) : ct hw 21 a = ct hw 22 a := ct_fuel f.f g
theorem mnI_lt {i j : Int} (h : mnI i j < i) : j < i ∧ mnI i j = j := by
  by_cases c : j < i
  · exact ⟨c, if_pos c⟩
  · unfold mnI at h
    rw [if_neg c] at h
    omega
theorem joinBH {S : Bool → Hp → Prop} {N : Bool → Hp → Prop} {Z : Prop} (h : ∀ b H, S b H → N b H) (k : (∀ b H, S b H → N b H) → Z) : Z := k h
/-- as many parts at most -/
def szI (room c : Int) : Nat := (if c < room then room else c).toNat
def spGr (K : PySem.W.Frag) (N : Nat) : Sp := fun vs H Q _ => ∃ (wl t : Addr) (vB vK : V) (room : Int) (G : Hp) (ds : List PyData) (j : Nat) (kvs : List (Key × V)) (hw : List (Str × Int)) (e : PyData), vs = [.ref wl, vB, .ref t, vK, .int room] ∧ Stt wl G H ∧ Dq K G vB (.tuple ds) ∧ BookL j ds ∧ j ≤ 2 ∧ G t = some (.dK kvs) ∧ Paired HvR kvs hw ∧ CoF (bkOf (.tuple ds)) hw ∧ Dq K G vK e ∧ FmA ds e ∧ ct hw 22 e < 10 ^ 6 ∧ szI room (ct hw 22 e) ≤ N ∧ room ≤ 10 ^ 6 ∧
  ∀ (v : V) (H' G' : Hp) (d : PyData), Gr wl G H G' H' → Dq K G' v d → Val numOk (bkOf (.tuple ds)) (szI room (ct hw 22 e)) e d → Q v H'
section
variable {P : Program} {w : World} {K : PySem.W.Frag} {mg : Str → Option Value} {base : Heap}
theorem scGr : FnScope ["well", "book", "costs", "kind", "room", "one", "two", "is_left", "part", "spare", "share", "first"] ["well", "book", "costs", "kind", "room"] (defScope sGr) := ⟨rfl, rfl, rfl, by decide +kernel, rfl, by decide +kernel, by decide +kernel⟩
theorem ok_grown {f gD gN gK gC : Addr} {fd dD dN dK dC : FuncData} {N k : Nat} (hk : 22 ≤ k) (F : Fun K "_law_grown" "_law_grown" sGr f fd) (MX : mg "max" = none) (D : Gv P w K mg base 1 "_law_draw" gD dD ["well", "many"] spDraw) (NU : Gv P w K mg base 3 "_law_number" gN dN ["well"] spNu) (KO : Gv P w K mg base 1 "_law_kind_of" gK dK ["book", "name"] (spKo K)) (CO : Gv P w K mg base 22 "_law_cost" gC dC ["kind", "costs"] (spCo K 22))
    (R : Gv P w K mg base k "_law_grown" f fd ["well", "book", "costs", "kind", "room"] (spGr K N)) : FnOk P w K mg base CX0 (k + 1) f fd ["well", "book", "costs", "kind", "room"] (spGr K (N + 1)) := by
  refine F.ok scGr (fun vs H Q E h => ?_) (fun cdv A outer s H vs Q E hr h => ?_)
  · obtain ⟨wl, t, vB, vK, room, G, ds, j, kvs, hw, e, rfl, _⟩ := h
    rfl
  obtain ⟨wl, t, vB, vK, room, G, ds, j, kvs, hw, e, rfl, st, hB, bL, hj, ht, pr, cof, hK, fe, cl, nN, rm, q⟩ := h
  have hr1 : Room 1 (A.deeper _) := hr.mono (by omega)
  have hr3 : Room 3 (A.deeper _) := hr.mono (by omega)
  have hr22 : Room 22 (A.deeper _) := hr.mono hk
  refine ⟨_, (pss_cons (ps_if (pt_cmpR op_in_seq (pe_ix ix_tup (pv 3) pe_int (fun _ _ => rfl)) (pe_tup (pa_cons pe_str (pa_cons pe_str pa_nil))) (by rfl)) (pss_one (ps_ret (pe_ifExp (pt_cmpR op_eq (pe_ix ix_tup (pv 3) pe_int (fun _ _ => rfl)) pe_str (nomark _)) (pe_call NU.ok hr3 rfl NU.m NU.k NU.b .nil pass0 (pa_cons (pv 0) pa_nil)) (pe_tupN pa_nil)))) pss_nil)
    (pss_cons (ps_if (pt_cmpR op_eq (pe_ix ix_tup (pv 3) pe_int (fun _ _ => rfl)) pe_str (nomark _)) (pss_one (ps_ret (pe_call R.ok hr rfl R.m R.k R.b .nil pass0 (pa_cons (pv 0) (pa_cons (pv 1) (pa_cons (pv 2) (pa_cons (pe_call KO.ok hr1 rfl KO.m KO.k KO.b .nil pass0 (pa_cons (pv 1) (pa_cons (pe_ix ix_tup (pv 3) pe_int (fun _ _ => rfl)) pa_nil))) (pa_cons (pe_op op_sub (pv 4) pe_int) pa_nil)))))))) pss_nil)
    (pss_cons (ps_par (i := 5) (j := 6) rfl scGr.nd rfl rfl (by decide) rfl rfl (pa_cons (pe_call CO.ok hr22 rfl CO.m CO.k CO.b .nil pass0 (pa_cons (pe_ix ix_tup (pv 3) pe_int (fun _ _ => rfl)) (pa_cons (pv 2) pa_nil))) (pa_cons (pe_call CO.ok hr22 rfl CO.m CO.k CO.b .nil pass0 (pa_cons (pe_ix ix_tup (pv 3) pe_int (fun _ _ => rfl)) (pa_cons (pv 2) pa_nil))) pa_nil)) (by rfl))
    (pss_cons (ps_if (pt_cmpR op_eq (pe_ix ix_tup (pv 3) pe_int (fun _ _ => rfl)) pe_str (nomark _)) (pss_cons (ps_set (i := 7) scGr.nd rfl (.inl rfl) (pe_cmpR op_le (pv 5) (pv 6) (nomark _)))
    (pss_cons (ps_if (pt_cmpR op_lt (pe_callB (call_max2 rfl) rfl MX (by decide +kernel) (pa_cons (pv 5) (pa_cons (pv 6) pa_nil))) (pv 4) (nomark _)) (pss_one (ps_set (i := 7) scGr.nd rfl (.inl rfl) (pe_cmpR op_eq (pe_call D.ok hr1 rfl D.m D.k D.b .nil pass0 (pa_cons (pv 0) (pa_cons pe_int pa_nil))) pe_int (nomark _)))) pss_nil)
    (pss_cons (ps_set (i := 8) scGr.nd rfl (.inl rfl) (pe_ifExp (pt_val (pv 7)) (pe_ix ix_tup (pv 3) pe_int (fun _ _ => rfl)) (pe_ix ix_tup (pv 3) pe_int (fun _ _ => rfl))))
    (pss_one (ps_ret (pe_tupN (pa_cons (pe_ifExp (pt_val (pv 7)) pe_str pe_str) (pa_cons (pe_call R.ok hr rfl R.m R.k R.b .nil pass0 (pa_cons (pv 0) (pa_cons (pv 1) (pa_cons (pv 2) (pa_cons (pv 8) (pa_cons (pe_op op_sub (pv 4) pe_int) pa_nil)))))) pa_nil)))))))) pss_nil)
    (pss_cons (ps_set (i := 9) scGr.nd rfl (.inl rfl) (pe_callB (call_max2 rfl) rfl MX (by decide +kernel) (pa_cons pe_int (pa_cons (pe_op op_sub (pe_op op_sub (pe_op op_sub (pv 4) pe_int) (pv 5)) (pv 6)) pa_nil))))
    (pss_cons (ps_set (i := 10) scGr.nd rfl (.inl rfl) (pe_op op_add (pv 5) (pe_ifExp (pt_cmpR op_gt (pv 9) pe_int (nomark _)) (pe_call D.ok hr1 rfl D.m D.k D.b .nil pass0 (pa_cons (pv 0) (pa_cons (pe_op op_add (pv 9) pe_int) pa_nil))) pe_int)))
    (pss_cons (ps_set (i := 11) scGr.nd rfl (.inl rfl) (pe_call R.ok hr rfl R.m R.k R.b .nil pass0 (pa_cons (pv 0) (pa_cons (pv 1) (pa_cons (pv 2) (pa_cons (pe_ix ix_tup (pv 3) pe_int (fun _ _ => rfl)) (pa_cons (pv 10) pa_nil)))))))
    (pss_one (ps_ret (pe_tupN (pa_cons pe_str (pa_cons (pv 11) (pa_cons (pe_call R.ok hr rfl R.m R.k R.b .nil pass0 (pa_cons (pv 0) (pa_cons (pv 1) (pa_cons (pv 2) (pa_cons (pe_ix ix_tup (pv 3) pe_int (fun _ _ => rfl)) (pa_cons (pe_op op_sub (pe_op op_sub (pv 4) pe_int) (pv 10)) pa_nil)))))) pa_nil))))))))))))), ?_⟩
  have z3 : ∀ {k : Nat}, k ≤ 20 → k ≤ sizeLine := fun h => Nat.le_trans h (by decide)
  have hKH := Dq.mono st.sub _ _ hK
  have pos : ∀ {a : PyData}, FmA ds a → 1 ≤ ct hw 22 a := fun fa => ct_pos cof.pos 22 _ fa.f
  rcases fe.head with ⟨w, rfl, hw3⟩ | ⟨x, rfl⟩ | ⟨w, a, b, rfl, hw2⟩
  · obtain ⟨ad, xs, rfl, hx, hA⟩ := dq_tuple hKH
    obtain ⟨x0, rs, rfl, g0, hA⟩ := dqAll_cons hA
    cases g0
    refine ⟨_, rfl, ad, _, 0, _, rfl, rfl, hx, atI_nat (j := 0) rfl, z3 (by show 2 ≤ 20; decide), fun t0 h0 => ?_⟩
    have s0 := same_new h0 (.tup (lTu.map V.str))
    refine ⟨t0, _, rfl, .inr (SqT.of upd_same), rfl, flat_strs lTu, _, rfl, ?_⟩
    show if inV (V.str w) (lTu.map V.str) = true then _ else _
    have g1 := Gr.same st s0
    have hx' := s0.seqT hx (K := K)
    have one : ∀ room : Int, ∃ z, szI room 1 = z + 1 := fun room => by
      unfold szI
      split
      · exact ⟨room.toNat - 1, by omega⟩
      · exact ⟨0, rfl⟩
    rw [ct_one] at cl q
    rcases w_three hw3 with rfl | rfl | rfl
    · refine iteY (by decide +kernel) ?_
      refine ⟨_, rfl, ad, _, 0, _, rfl, rfl, hx', atI_nat (j := 0) rfl, rfl, _, rfl, iteY (by decide +kernel) ?_⟩
      refine ⟨_, rfl, wl, rfl, g1.well, fun i H2 lo hi w2 b2 => ?_⟩
      rw [if_neg (by decide +kernel)] at q
      refine q _ _ _ (.int i) (g1.trans (Gr.stay (g1.stt st) w2 b2)) (.int i) ?_
      obtain ⟨z, ez⟩ := one room
      rw [ez]
      exact .thing ⟨i, rfl, lo, hi⟩
    · rw [if_pos (by decide +kernel)] at cl
      exact absurd cl (by decide)
    · refine iteY (by decide +kernel) ?_
      refine ⟨_, rfl, ad, _, 0, _, rfl, rfl, hx', atI_nat (j := 0) rfl, rfl, _, rfl, iteN (by decide +kernel) ?_⟩
      refine ⟨z3 (by show 0 ≤ 20; decide), fun p o hp ho => ?_⟩
      rw [if_neg (by decide +kernel)] at q
      obtain ⟨g2, D2⟩ := Gr.tup (K := K) (vs := []) (ds := []) (g1.stt st) hp ho .nil
      refine q _ _ _ _ (g1.trans g2) D2 ?_
      obtain ⟨z, ez⟩ := one room
      rw [ez]
      exact .unit
  · obtain ⟨ad, xs, rfl, hx, hA⟩ := dq_tuple hKH
    obtain ⟨x0, rs, rfl, g0, hA⟩ := dqAll_cons hA
    obtain ⟨x1, rs, rfl, g1, hA⟩ := dqAll_cons hA
    cases g0
    cases g1
    refine ⟨_, rfl, ad, _, 0, _, rfl, rfl, hx, atI_nat (j := 0) rfl, z3 (by show 2 ≤ 20; decide), fun t0 h0 => ?_⟩
    have s0 := same_new h0 (.tup (lTu.map V.str))
    refine ⟨t0, _, rfl, .inr (SqT.of upd_same), rfl, flat_strs lTu, _, rfl, ?_⟩
    show if inV (V.str "name") (lTu.map V.str) = true then _ else _
    refine iteN (by decide +kernel) ?_
    have g1 := Gr.same st s0
    have hx' := s0.seqT hx (K := K)
    refine ⟨_, rfl, ad, _, 0, _, rfl, rfl, hx', atI_nat (j := 0) rfl, rfl, _, rfl, iteY (by decide +kernel) ?_⟩
    obtain ⟨k1, lk⟩ := fe.nam
    have fk := look_fm bL hj lk
    have cf := cof.fall x k1 lk
    rw [ct_nm] at cl nN q
    have e1 : mnI (10 ^ 6) (1 + cg hw x) = 1 + cg hw x := by
      unfold mnI at cl ⊢
      split
      · rfl
      · rename_i z
        rw [if_neg z] at cl
        exact absurd cl (Int.lt_irrefl _)
    rw [e1] at cl nN q
    have p1 := pos fk
    have dfew : ds.length ≤ 1000 := by
      have := bk_few bL hj
      rw [show (bkOf (.tuple ds)).length = ds.length from List.length_map ..] at this
      omega
    refine ⟨_, rfl, _, rfl, _, rfl, _, rfl, _, rfl, ad, _, 1, _, rfl, rfl, hx', atI_nat (j := 1) rfl, G, vB, ds, x, k1, rfl, (g1.stt st).sub, hB, rowsP_L bL, dfew, lk, fun u1 H2 s2 D2 => ?_⟩
    have g2 := g1.trans (Gr.same (g1.stt st) s2)
    have st2 := g2.stt st
    refine ⟨_, rfl, _, _, rfl, rfl, wl, t, vB, u1, room - 1, G, ds, j, kvs, hw, k1, rfl, st2, hB, bL, hj, ht, pr, cof, D2, fk, by omega, ?_, by omega, fun v3 H3 G3 d3 g3 D3 val => ?_⟩
    · unfold szI at nN ⊢
      split <;> split at nN <;> omega
    · refine q v3 H3 G3 d3 (g2.trans g3) D3 ?_
      have le : szI (room - 1) (ct hw 22 k1) + 1 ≤ szI room (1 + cg hw x) := by
        unfold szI
        split <;> split <;> omega
      exact (Val.name lk val).up le
  · obtain ⟨_, fa, fb⟩ := fe.two
    have fm := fe.f
    rw [fB_two, Bool.and_eq_true, Bool.and_eq_true] at fm
    have ea := ct_up (hw := hw) fa fm.2.1
    have eb := ct_up (hw := hw) fb fm.2.2
    have pa' := pos fa
    have pb' := pos fb
    rw [ct_two, ea, eb] at cl nN q
    obtain ⟨ad, xs, rfl, hxG, hA⟩ := dq_tuple hK
    obtain ⟨y0, rs, rfl, g0, hA⟩ := dqAll_cons hA
    obtain ⟨y1, rs, rfl, q1, hA⟩ := dqAll_cons hA
    obtain ⟨y2, rs, rfl, q2, hA⟩ := dqAll_cons hA
    obtain rfl := dqAll_nil hA
    cases g0
    have hx := st.sub.seqT hxG (K := K)
    have no : inV (V.str w) (lTu.map V.str) = false := by rcases w_two hw2 with z | z <;> rw [z] <;> decide +kernel
    have no1 : decide (V.str w = V.str "name") = false := by rcases w_two hw2 with z | z <;> rw [z] <;> decide +kernel
    refine ⟨_, rfl, ad, _, 0, _, rfl, rfl, hx, atI_nat (j := 0) rfl, z3 (by show 2 ≤ 20; decide), fun t0 h0 => ?_⟩
    have s0 := same_new h0 (.tup (lTu.map V.str))
    refine ⟨t0, _, rfl, .inr (SqT.of upd_same), rfl, flat_strs lTu, _, rfl, ?_⟩
    show if inV (V.str w) (lTu.map V.str) = true then _ else _
    refine iteN no ?_
    have g1 := Gr.same st s0
    have st1 := g1.stt st
    have hx' := s0.seqT hx (K := K)
    have ht1 := st1.sub _ _ ht
    refine ⟨_, rfl, ad, _, 0, _, rfl, rfl, hx', atI_nat (j := 0) rfl, rfl, _, rfl, iteN no1 ?_⟩
    refine ⟨_, rfl, ad, _, 1, _, rfl, rfl, hx', atI_nat (j := 1) rfl, _, rfl, t, y1, kvs, hw, a, rfl, ht1, pr, Dq.mono st1.sub _ _ q1, fa.f, fun H2 s2 => ?_⟩
    refine ⟨_, rfl, ad, _, 2, _, rfl, rfl, s2.seqT hx', atI_nat (j := 2) rfl, _, rfl, t, y2, kvs, hw, b, rfl, s2 _ _ ht1, pr, Dq.mono (st1.sub.trans s2) _ _ q2, fb.f, fun H3 s3 => ⟨_, _, rfl, ?_⟩⟩
    have g3 := (g1.trans (Gr.same st1 s2)).trans (Gr.same ((Gr.same st1 s2).stt st1) s3)
    have st3 := g3.stt st
    have hx3 := (s2.trans s3).seqT hx' (K := K)
    obtain ⟨cl', e2⟩ := mnI_lt cl
    rw [e2] at nN q
    clear e2 cl
    refine ⟨_, rfl, ad, _, 0, _, rfl, rfl, hx3, atI_nat (j := 0) rfl, rfl, _, rfl, ?_⟩
    rcases w_two hw2 with y | y
    · injection y with y
      subst y
      rw [show wE "pair" = false by decide +kernel, if_neg Bool.false_ne_true] at cl' nN q
      refine iteN (by decide +kernel) ?_
      generalize hca : ct hw 22 a = ca at cl' nN q pa'
      generalize hcb : ct hw 22 b = cb at cl' nN q pb'
      refine ⟨_, rfl, _, _, rfl, rfl, _, rfl, _, _, rfl, rfl, _, rfl, _, _, rfl, rfl, _, _, rfl, ?_⟩
      obtain ⟨sp, esp, hsp⟩ : ∃ sp : Int, sp = (if room - 1 - ca - cb > 0 then room - 1 - ca - cb else 0) ∧ 0 ≤ sp := ⟨_, rfl, by split <;> omega⟩
      rw [← esp]
      refine joinIH (S := fun d H' => 0 ≤ d ∧ d ≤ sp ∧ ∃ G', Gr wl G H G' H') ?fin (fun fin => by
        refine ⟨_, rfl, _, rfl, _, _, rfl, rfl, _, rfl, ?_⟩
        refine ite2 (fun c => ?_) (fun c => ?_)
        · have c1 : sp > 0 := of_decide_eq_true c
          refine ⟨_, rfl, _, rfl, _, _, rfl, rfl, wl, sp + 1, rfl, by omega, by rw [esp]; split <;> omega, st3.well, fun d H4 l4 u4 w4 b4 => ?_⟩
          have g4 := g3.trans (Gr.stay st3 w4 b4)
          refine ⟨ca, d, rfl, rfl, ?_⟩
          exact fin d H4 ⟨l4, by omega, G, g4⟩
        · obtain ⟨z0, ez⟩ : ∃ z0 : Int, z0 = 0 := ⟨_, rfl⟩
          rw [← ez]
          refine ⟨ca, z0, rfl, rfl, ?_⟩
          exact fin z0 H3 ⟨by omega, by omega, G, g3⟩)
      rintro d H4 ⟨d0, d1, G4, g4⟩
      have st4 := g4.stt st
      have fits : szI (ca + d) ca ≤ N ∧ szI (room - 1 - (ca + d)) cb ≤ N ∧ szI (ca + d) ca + szI (room - 1 - (ca + d)) cb + 1 ≤ szI room (1 + (ca + cb)) ∧ ca + d ≤ 10 ^ 6 := by
        by_cases z : room - 1 - ca - cb > 0
        · rw [if_pos z] at esp
          unfold szI at nN ⊢
          refine ⟨?_, ?_, ?_, by omega⟩ <;> (split at nN <;> (repeat' split) <;> omega)
        · rw [if_neg z] at esp
          unfold szI at nN ⊢
          refine ⟨?_, ?_, ?_, by omega⟩ <;> (split at nN <;> (repeat' split) <;> omega)
      obtain ⟨fit1, fit2, fit3, fit4⟩ := fits
      have hx4 := st4.sub.seqT (g4.gg.seqT hxG) (K := K)
      refine ⟨_, rfl, _, rfl, _, rfl, _, rfl, ad, _, 1, _, rfl, rfl, hx4, atI_nat (j := 1) rfl, _, rfl, wl, t, vB, y1, ca + d, G4, ds, j, kvs, hw, a, rfl, st4, Dq.mono g4.gg _ _ hB, bL, hj, g4.gg _ _ ht, pr, cof, Dq.mono g4.gg _ _ q1, fa, by rw [hca]; omega, by rw [hca]; exact fit1, fit4, fun v5 H5 G5 d5 g5 D5 val5 => ?_⟩
      rw [hca] at val5
      have st5 := g5.stt st4
      have gg5 := g4.gg.trans g5.gg
      have hx5 := st5.sub.seqT (gg5.seqT hxG) (K := K)
      refine ⟨_, rfl, _, rfl, _, rfl, _, rfl, _, rfl, ad, _, 2, _, rfl, rfl, hx5, atI_nat (j := 2) rfl, _, rfl, _, _, rfl, rfl, _, rfl, _, _, rfl, rfl, wl, t, vB, y2, room - 1 - (ca + d), G5, ds, j, kvs, hw, b, rfl, st5, Dq.mono gg5 _ _ hB, bL, hj, gg5 _ _ ht, pr, cof, Dq.mono gg5 _ _ q2, fb, by rw [hcb]; omega, by rw [hcb]; exact fit2, by omega, fun v6 H6 G6 d6 g6 D6 val6 => ⟨z3 (by show 3 ≤ 20; decide), fun p o hp ho => ?_⟩⟩
      rw [hcb] at val6
      obtain ⟨g7, D7⟩ := Gr.tup (K := K) (vs := [.str "pair", v5, v6]) (ds := [.str "pair", d5, d6]) (g6.stt st5) hp ho (.cons (.str _) (.cons (Dq.mono g6.gg _ _ D5) (.cons D6 .nil)))
      exact q _ _ _ _ (g4.trans (g5.trans (g6.trans g7))) D7 (.pair val5 val6 fit3)
    · injection y with y
      subst y
      rw [show wE "either" = true by decide +kernel, if_pos rfl] at cl' nN q
      refine iteY (by decide +kernel) ?_
      generalize hca : ct hw 22 a = ca at cl' nN q pa'
      generalize hcb : ct hw 22 b = cb at cl' nN q pb'
      refine ⟨_, rfl, _, rfl, _, _, rfl, rfl, ?_⟩
      obtain ⟨lb, hlb⟩ : ∃ lb, lb = decide (ca ≤ cb) := ⟨_, rfl⟩
      have e7 : (fun (i j : Int) => V.bl (decide (i ≤ j))) ca cb = V.bl lb := by rw [hlb]
      rw [e7]
      refine joinBH (S := fun b H' => ((if b = true then ca else cb) < 10 ^ 6 ∧ szI (room - 1) (if b = true then ca else cb) + 1 ≤ szI room (1 + mnI ca cb)) ∧ ∃ G', Gr wl G H G' H') ?fin2 (fun fin => by
        refine ⟨_, rfl, _, rfl, _, _, rfl, _, rfl, _, _, rfl, rfl, _, rfl, ?_⟩
        refine ite2 (fun c => ?_) (fun c => ?_)
        · have c1 : (if cb > ca then cb else ca) < room := of_decide_eq_true c
          refine ⟨_, rfl, wl, 2, rfl, by decide, by decide, st3.well, fun d H4 l4 u4 w4 b4 => ?_⟩
          have g4 := g3.trans (Gr.stay st3 w4 b4)
          refine ⟨rfl, ?_⟩
          generalize decide (V.int d = V.int 0) = bb
          have lo : ca < room ∧ cb < room := by split at c1 <;> omega
          refine fin bb H4 ⟨⟨by split <;> omega, ?_⟩, G, g4⟩
          unfold szI mnI
          (repeat' split) <;> omega
        · refine fin lb H3 ⟨?_, G, g3⟩
          subst hlb
          unfold mnI at cl' ⊢
          unfold szI
          by_cases z : ca ≤ cb
          · rw [if_pos (decide_eq_true z)]
            split at cl' <;> refine ⟨by omega, ?_⟩ <;> (repeat' split) <;> omega
          · rw [if_neg (by rw [decide_eq_false z]; exact Bool.false_ne_true)]
            split at cl' <;> refine ⟨by omega, ?_⟩ <;> (repeat' split) <;> omega)
      rintro lb' H4 ⟨⟨c1, c2⟩, G4, g4⟩
      have st4 := g4.stt st
      have hx4 := st4.sub.seqT (g4.gg.seqT hxG) (K := K)
      cases lb' with
      | true =>
        rw [if_pos rfl] at c1 c2
        refine ⟨_, rfl, _, rfl, iteT ?_⟩
        refine ⟨_, rfl, ad, _, 1, _, rfl, rfl, hx4, atI_nat (j := 1) rfl, ?_⟩
        refine ⟨_, rfl, _, rfl, iteT ?_⟩
        refine ⟨_, rfl, _, rfl, _, rfl, _, rfl, _, rfl, _, _, rfl, rfl, wl, t, vB, y1, room - 1, G4, ds, j, kvs, hw, a, rfl, st4, Dq.mono g4.gg _ _ hB, bL, hj, g4.gg _ _ ht, pr, cof, Dq.mono g4.gg _ _ q1, fa, by rw [hca]; exact c1, by rw [hca]; omega, by omega, fun v5 H5 G5 d5 g5 D5 val5 => ⟨z3 (by show 2 ≤ 20; decide), fun p o hp ho => ?_⟩⟩
        rw [hca] at val5
        obtain ⟨g7, D7⟩ := Gr.tup (K := K) (vs := [.str "left", v5]) (ds := [.str "left", d5]) (g5.stt st4) hp ho (.cons (.str _) (.cons D5 .nil))
        exact q _ _ _ _ (g4.trans (g5.trans g7)) D7 ((Val.left val5).up c2)
      | false =>
        rw [if_neg Bool.false_ne_true] at c1 c2
        refine ⟨_, rfl, _, rfl, iteF ?_⟩
        refine ⟨_, rfl, ad, _, 2, _, rfl, rfl, hx4, atI_nat (j := 2) rfl, ?_⟩
        refine ⟨_, rfl, _, rfl, iteF ?_⟩
        refine ⟨_, rfl, _, rfl, _, rfl, _, rfl, _, rfl, _, _, rfl, rfl, wl, t, vB, y2, room - 1, G4, ds, j, kvs, hw, b, rfl, st4, Dq.mono g4.gg _ _ hB, bL, hj, g4.gg _ _ ht, pr, cof, Dq.mono g4.gg _ _ q2, fb, by rw [hcb]; exact c1, by rw [hcb]; omega, by omega, fun v5 H5 G5 d5 g5 D5 val5 => ⟨z3 (by show 2 ≤ 20; decide), fun p o hp ho => ?_⟩⟩
        rw [hcb] at val5
        obtain ⟨g7, D7⟩ := Gr.tup (K := K) (vs := [.str "right", v5]) (ds := [.str "right", d5]) (g5.stt st4) hp ho (.cons (.str _) (.cons D5 .nil))
        exact q _ _ _ _ (g4.trans (g5.trans g7)) D7 ((Val.right val5).up c2)
theorem no_gr {vs : List V} {H : Hp} {Q : VK} {E : XK} (h : spGr K 0 vs H Q E) : False := by
  obtain ⟨wl, t, vB, vK, room, G, ds, j, kvs, hw, e, _, _, _, _, _, _, _, cof, _, fe, _, nN, _⟩ := h
  have := ct_pos cof.pos 22 _ fe.f
  unfold szI at nN
  split at nN <;> omega
theorem none_gr {f : Addr} {fd : FuncData} {k : Nat} : FnOk P w K mg base CX0 k f fd ["well", "book", "costs", "kind", "room"] (spGr K 0) := ⟨fun _ _ _ _ h => (no_gr h).elim, fun _ _ _ _ _ _ _ _ _ _ _ _ _ h => (no_gr h).elim⟩
theorem growns {f gD gN gK gC : Addr} {fd dD dN dK dC : FuncData} (F : Fun K "_law_grown" "_law_grown" sGr f fd) (bF : Binds K fd ["well", "book", "costs", "kind", "room"] []) (mF : mg "_law_grown" = some (.ref f)) (MX : mg "max" = none) (D : Gv P w K mg base 1 "_law_draw" gD dD ["well", "many"] spDraw) (NU : Gv P w K mg base 3 "_law_number" gN dN ["well"] spNu) (KO : Gv P w K mg base 1 "_law_kind_of" gK dK ["book", "name"] (spKo K)) (CO : Gv P w K mg base 22 "_law_cost" gC dC ["kind", "costs"] (spCo K 22)) : ∀ n : Nat, Gv P w K mg base (22 + n) "_law_grown" f fd ["well", "book", "costs", "kind", "room"] (spGr K n)
  | 0 => ⟨none_gr, bF, F.kp, mF⟩
  | n + 1 => ⟨ok_grown (k := 22 + n) (by omega) F MX D NU KO CO (growns F bF mF MX D NU KO CO n), bF, F.kp, mF⟩
end
end Toy
set_option Elab.async false
set_option linter.all false
set_option maxRecDepth 100000
set_option maxHeartbeats 4000000
namespace Toy
open PySem L2 PyProof.Rows
abbrev sBr : Stmt := top 75
abbrev sBl : Stmt := top 76
/-! ### names followed in the book itself; things' places -/
/-- a value, things left out -/
inductive Bl : PyData → PyData → Prop
  | thing (i : Int) : Bl (.int i) (.tuple [])
  | unit : Bl (.tuple []) (.tuple [])
  | pair {a b a' b' : PyData} : Bl a a' → Bl b b' → Bl (vPair a b) (vPair a' b')
  | left {a a' : PyData} : Bl a a' → Bl (vLeft a) (vLeft a')
  | right {a a' : PyData} : Bl a a' → Bl (vRight a) (vRight a')
theorem bl_of {bk : List (Str × PyData)} {n : Nat} {k d : PyData} (h : Val numOk bk n k d) : ∃ s, Bl d s ∧ Val emptyD bk n k s := by
  induction h with
  | thing l =>
    obtain ⟨i, rfl, _⟩ := l
    exact ⟨_, .thing i, .thing rfl⟩
  | unit => exact ⟨_, .unit, .unit⟩
  | name l _ ih =>
    obtain ⟨s, a, b⟩ := ih
    exact ⟨s, a, .name l b⟩
  | pair _ _ le ia ib =>
    obtain ⟨s, a, b⟩ := ia
    obtain ⟨t, c, d⟩ := ib
    exact ⟨_, .pair a c, .pair b d le⟩
  | left _ ih =>
    obtain ⟨s, a, b⟩ := ih
    exact ⟨_, .left a, .left b⟩
  | right _ ih =>
    obtain ⟨s, a, b⟩ := ih
    exact ⟨_, .right a, .right b⟩
/-- the bare kind below, of one that has values -/
theorem val_bare {L : PyData → Prop} {bk : List (Str × PyData)} {n : Nat} {k d : PyData} (h : Val L bk n k d) : ∃ m k' n', Hops bk m k k' ∧ Val L bk n' k' d ∧ Bare k' ∧ n' + m ≤ n := by
  obtain ⟨m, k', n', a, b, c⟩ := h.hops
  exact ⟨m, k', n', a, c, a.end', b⟩
def spBr (K : PySem.W.Frag) : Sp := fun vs H Q _ => ∃ (G : Hp) (vB vK : V) (ds : List PyData) (m : Nat) (k k' : PyData), vs = [vB, vK] ∧ Same G H ∧ Dq K G vB (.tuple ds) ∧ RowsP ds ∧ ds.length ≤ 1000 ∧ Dq K G vK k ∧ Hops (bkOf (.tuple ds)) m k k' ∧ ∀ u H', Same H H' → Dq K G u k' → Q u H'
def spBl (K : PySem.W.Frag) (N : Nat) : Sp := fun vs H Q _ => ∃ (vB vK vD : V) (ds : List PyData) (n : Nat) (k d d' : PyData), vs = [vB, vK, vD] ∧ Dq K H vB (.tuple ds) ∧ RowsP ds ∧ ds.length ≤ 1000 ∧ Dq K H vK k ∧ Dq K H vD d ∧ Val numOk (bkOf (.tuple ds)) n k d ∧ n ≤ N ∧ Bl d d' ∧ ∀ u H', Same H H' → Dq K H' u d' → Q u H'
section
variable {P : Program} {w : World} {K : PySem.W.Frag} {mg : Str → Option Value} {base : Heap}
theorem scBr : FnScope ["book", "kind", "turn"] ["book", "kind"] (defScope sBr) := ⟨rfl, rfl, rfl, by decide +kernel, rfl, by decide +kernel, by decide +kernel⟩
theorem scBl : FnScope ["book", "kind", "value", "bare"] ["book", "kind", "value"] (defScope sBl) := ⟨rfl, rfl, rfl, by decide +kernel, rfl, by decide +kernel, by decide +kernel⟩
theorem ok_bare {f gK : Addr} {fd dK : FuncData} (F : Fun K "_law_bare" "_law_bare" sBr f fd) (RN : Nr mg) (T : Nm mg) (KO : Gv P w K mg base 1 "_law_kind_of" gK dK ["book", "name"] (spKo K)) : FnOk P w K mg base CX0 2 f fd ["book", "kind"] (spBr K) := by
  refine F.ok scBr (fun vs H Q E h => ?_) (fun cdv A outer s H vs Q E hr h => ?_)
  · obtain ⟨G, vB, vK, ds, m, k, k', rfl, _⟩ := h
    rfl
  obtain ⟨G, vB, vK, ds, m, k, k', rfl, sG, hB, rp, few, hK, hp, q⟩ := h
  refine ⟨_, (pss_cons (ps_for PassesOwn.never rfl (pi_range1 (by rfl) RN.range (pa_cons (pe_op op_add (pe_callB call_len_seq rfl T.len PySem.boot_len (pa_cons (pv 0) pa_nil)) pe_int) pa_nil)) (pg_name (i := 2) scBr.nd rfl (.inl rfl)) (pss_cons (ps_if (pt_cmpR op_ne (pe_ix ix_tup (pv 1) pe_int (fun _ _ => rfl)) pe_str (nomark _)) (pss_one (ps_ret (pv 1))) pss_nil)
    (pss_one (ps_set (i := 1) scBr.nd rfl (.inl rfl) (pe_call KO.ok hr rfl KO.m KO.k KO.b .nil pass0 (pa_cons (pv 0) (pa_cons (pe_ix ix_tup (pv 1) pe_int (fun _ _ => rfl)) pa_nil)))))))
    (pss_one (ps_ret (pe_tupN (pa_cons pe_str pa_nil))))), ?_⟩
  obtain ⟨a, xs, rfl, hx, hA⟩ := dq_tuple hB
  have hl := hA.len
  have hf := hp.few
  have hbl : (bkOf (.tuple ds)).length = ds.length := List.length_map ..
  refine ⟨_, rfl, a, _, rfl, .inr (sG.seqT hx), _, _, rfl, rfl, xs.length + 1, rfl, by omega, by omega, ?_⟩
  refine for_range (lo := 0) (n := xs.length + 1) (fun i σ H' => ∃ ui ki c j, σ = [some (.ref a), some ui, c] ∧ Same H H' ∧ Dq K G ui ki ∧ Hops (bkOf (.tuple ds)) j ki k' ∧ j + i = m) ⟨vK, k, none, m, rfl, Same.refl _, hK, hp, rfl⟩ ?_ ?_
  · rintro i σ H1 hi ⟨ui, ki, c, j, rfl, s1, hui, hpi, ej⟩
    have sG1 := sG.trans s1
    cases hpi with
    | stop b =>
      obtain ⟨wd, r, rfl, nw⟩ := b
      obtain ⟨ad, xs', rfl, hx', hA'⟩ := dq_tuple hui
      obtain ⟨x0, rs, rfl, g0, hA'⟩ := dqAll_cons hA'
      cases g0
      have nn : (!decide (V.str wd = V.str "name")) = true := by
        rw [decide_eq_false (fun z => nw (by injection z))]
        rfl
      exact ⟨_, rfl, ad, _, 0, _, rfl, rfl, sG1.seqT hx', atI_nat (j := 0) rfl, rfl, _, rfl, iteY nn ⟨_, rfl, q _ _ s1 hui⟩⟩
    | @step m' x k1 _ l g =>
      have hui0 := hui
      obtain ⟨ad, xs', rfl, hx', hA'⟩ := dq_tuple hui
      obtain ⟨x0, rs, rfl, g0, hA'⟩ := dqAll_cons hA'
      obtain ⟨x1, rs, rfl, g1, hA'⟩ := dqAll_cons hA'
      cases g0
      cases g1
      refine ⟨_, rfl, ad, _, 0, _, rfl, rfl, sG1.seqT hx', atI_nat (j := 0) rfl, rfl, _, rfl, iteN (by decide +kernel) ?_⟩
      refine ⟨_, rfl, _, rfl, ad, _, 1, _, rfl, rfl, sG1.seqT hx', atI_nat (j := 1) rfl, G, .ref a, ds, x, k1, rfl, sG1, hB, rp, few, l, fun u2 H2 s2 D2 => ?_⟩
      exact ⟨u2, k1, _, m', rfl, s1.trans s2, D2, g, by omega⟩
  · rintro σ H1 ⟨ui, ki, c, j, rfl, s1, hui, hpi, ej⟩
    omega
theorem ok_blank {f gB : Addr} {fd dB : FuncData} {N k : Nat} (hk : 2 ≤ k) (F : Fun K "_law_blank" "_law_blank" sBl f fd) (BR : Gv P w K mg base 2 "_law_bare" gB dB ["book", "kind"] (spBr K)) (R : Gv P w K mg base k "_law_blank" f fd ["book", "kind", "value"] (spBl K N)) : FnOk P w K mg base CX0 (k + 1) f fd ["book", "kind", "value"] (spBl K (N + 1)) := by
  refine F.ok scBl (fun vs H Q E h => ?_) (fun cdv A outer s H vs Q E hr h => ?_)
  · obtain ⟨vB, vK, vD, ds, n, k, d, d', rfl, _⟩ := h
    rfl
  obtain ⟨vB, vK, vD, ds, n, k, d, d', rfl, hB, rp, few, hK, hD, val, nN, bl, q⟩ := h
  have hr2 : Room 2 (A.deeper _) := hr.mono hk
  refine ⟨_, (pss_cons (ps_set (i := 3) scBl.nd rfl (.inl rfl) (pe_call BR.ok hr2 rfl BR.m BR.k BR.b .nil pass0 (pa_cons (pv 0) (pa_cons (pv 1) pa_nil))))
    (pss_cons (ps_if (pt_cmpR op_in_seq (pe_ix ix_tup (pv 3) pe_int (fun _ _ => rfl)) (pe_tup (pa_cons pe_str (pa_cons pe_str pa_nil))) (by rfl)) (pss_one (ps_ret (pe_tupN pa_nil))) pss_nil)
    (pss_cons (ps_if (pt_cmpR op_eq (pe_ix ix_tup (pv 3) pe_int (fun _ _ => rfl)) pe_str (nomark _)) (pss_one (ps_ret (pe_tupN (pa_cons pe_str (pa_cons (pe_call R.ok hr rfl R.m R.k R.b .nil pass0 (pa_cons (pv 0) (pa_cons (pe_ix ix_tup (pv 3) pe_int (fun _ _ => rfl)) (pa_cons (pe_ix ix_tup (pv 2) pe_int (fun _ _ => rfl)) pa_nil)))) (pa_cons (pe_call R.ok hr rfl R.m R.k R.b .nil pass0 (pa_cons (pv 0) (pa_cons (pe_ix ix_tup (pv 3) pe_int (fun _ _ => rfl)) (pa_cons (pe_ix ix_tup (pv 2) pe_int (fun _ _ => rfl)) pa_nil)))) pa_nil)))))) pss_nil)
    (pss_one (ps_ret (pe_tupN (pa_cons (pe_ix ix_tup (pv 2) pe_int (fun _ _ => rfl)) (pa_cons (pe_call R.ok hr rfl R.m R.k R.b .nil pass0 (pa_cons (pv 0) (pa_cons (pe_ix ix_tup (pv 3) (pe_ifExp (pt_cmpR op_eq (pe_ix ix_tup (pv 2) pe_int (fun _ _ => rfl)) pe_str (nomark _)) pe_int pe_int) (fun _ _ => rfl)) (pa_cons (pe_ix ix_tup (pv 2) pe_int (fun _ _ => rfl)) pa_nil)))) pa_nil)))))))), ?_⟩
  have z3 : ∀ {k : Nat}, k ≤ 20 → k ≤ sizeLine := fun h => Nat.le_trans h (by decide)
  obtain ⟨m, k2, n2, hp, v2, br, le⟩ := val_bare val
  refine ⟨_, rfl, _, rfl, H, vB, vK, ds, m, k, k2, rfl, Same.refl _, hB, rp, few, hK, hp, fun u1 H1 s1 D1 => ?_⟩
  cases v2 with
  | thing l =>
    obtain ⟨ad, xs, rfl, hx, hA⟩ := dq_tuple D1
    obtain ⟨x0, rs, rfl, g0, hA⟩ := dqAll_cons hA
    cases g0
    obtain ⟨i, rfl, _⟩ := l
    cases bl
    refine ⟨_, rfl, ad, _, 0, _, rfl, rfl, s1.seqT hx, atI_nat (j := 0) rfl, z3 (by show 2 ≤ 20; decide), fun t0 h0 => ?_⟩
    have s0 := same_new h0 (.tup (lTu.map V.str))
    refine ⟨t0, _, rfl, .inr (SqT.of upd_same), rfl, flat_strs lTu, _, rfl, ?_⟩
    show if inV (V.str "thing") (lTu.map V.str) = true then _ else _
    refine iteY (by decide +kernel) ⟨z3 (by show 0 ≤ 20; decide), fun p o hp' ho => ?_⟩
    exact q _ _ (s1.trans (s0.trans (same_new hp' _))) (.tup (SqP.of upd_same ho) .nil)
  | unit =>
    obtain ⟨ad, xs, rfl, hx, hA⟩ := dq_tuple D1
    obtain ⟨x0, rs, rfl, g0, hA⟩ := dqAll_cons hA
    cases g0
    cases bl
    refine ⟨_, rfl, ad, _, 0, _, rfl, rfl, s1.seqT hx, atI_nat (j := 0) rfl, z3 (by show 2 ≤ 20; decide), fun t0 h0 => ?_⟩
    have s0 := same_new h0 (.tup (lTu.map V.str))
    refine ⟨t0, _, rfl, .inr (SqT.of upd_same), rfl, flat_strs lTu, _, rfl, ?_⟩
    show if inV (V.str "unit") (lTu.map V.str) = true then _ else _
    refine iteY (by decide +kernel) ⟨z3 (by show 0 ≤ 20; decide), fun p o hp' ho => ?_⟩
    exact q _ _ (s1.trans (s0.trans (same_new hp' _))) (.tup (SqP.of upd_same ho) .nil)
  | name _ _ => exact (bare_name br).elim
  | @pair n2 m1 m2 ka kb u v va vb le2 =>
    obtain ⟨ad, xs, rfl, hx, hA⟩ := dq_tuple D1
    obtain ⟨x0, rs, rfl, g0, hA⟩ := dqAll_cons hA
    obtain ⟨x1, rs, rfl, g1, hA⟩ := dqAll_cons hA
    obtain ⟨x2, rs, rfl, g2, hA⟩ := dqAll_cons hA
    obtain rfl := dqAll_nil hA
    cases g0
    cases bl with
    | @pair _ _ u' v' ba bb =>
      obtain ⟨av, ys, rfl, hy, hB'⟩ := dq_tuple hD
      obtain ⟨y0, rs, rfl, q0, hB'⟩ := dqAll_cons hB'
      obtain ⟨y1, rs, rfl, q1, hB'⟩ := dqAll_cons hB'
      obtain ⟨y2, rs, rfl, q2, hB'⟩ := dqAll_cons hB'
      obtain rfl := dqAll_nil hB'
      refine ⟨_, rfl, ad, _, 0, _, rfl, rfl, s1.seqT hx, atI_nat (j := 0) rfl, z3 (by show 2 ≤ 20; decide), fun t0 h0 => ?_⟩
      have s0 := same_new h0 (.tup (lTu.map V.str))
      refine ⟨t0, _, rfl, .inr (SqT.of upd_same), rfl, flat_strs lTu, _, rfl, ?_⟩
      show if inV (V.str "pair") (lTu.map V.str) = true then _ else _
      refine iteN (by decide +kernel) ?_
      have s2 := s1.trans s0
      refine ⟨_, rfl, ad, _, 0, _, rfl, rfl, s2.seqT hx, atI_nat (j := 0) rfl, rfl, _, rfl, iteY (by decide +kernel) ?_⟩
      refine ⟨_, rfl, _, rfl, ad, _, 1, _, rfl, rfl, s2.seqT hx, atI_nat (j := 1) rfl, _, rfl, av, _, 1, _, rfl, rfl, s2.seqT hy, atI_nat (j := 1) rfl, vB, x1, y1, ds, m1, ka, u, u', rfl, Dq.mono s2 _ _ hB, rp, few, Dq.mono s2 _ _ g1, Dq.mono s2 _ _ q1, va, by omega, ba, fun r3 H3 s3 D3 => ?_⟩
      have s13 := s2.trans s3
      refine ⟨_, rfl, _, rfl, ad, _, 2, _, rfl, rfl, s13.seqT hx, atI_nat (j := 2) rfl, _, rfl, av, _, 2, _, rfl, rfl, s13.seqT hy, atI_nat (j := 2) rfl, vB, x2, y2, ds, m2, kb, v, v', rfl, Dq.mono s13 _ _ hB, rp, few, Dq.mono s13 _ _ g2, Dq.mono s13 _ _ q2, vb, by omega, bb, fun r4 H4 s4 D4 => ⟨z3 (by show 3 ≤ 20; decide), fun p o hp' ho => ?_⟩⟩
      have s5 := same_new hp' (.frz o (.tup [.str "pair", r3, r4]))
      exact q _ _ (s13.trans (s4.trans s5)) (.tup (SqP.of upd_same ho) (.cons (.str _) (.cons (Dq.mono (s4.trans s5) _ _ D3) (.cons (Dq.mono s5 _ _ D4) .nil))))
  | @left n2 ka kb u va =>
    obtain ⟨ad, xs, rfl, hx, hA⟩ := dq_tuple D1
    obtain ⟨x0, rs, rfl, g0, hA⟩ := dqAll_cons hA
    obtain ⟨x1, rs, rfl, g1, hA⟩ := dqAll_cons hA
    obtain ⟨x2, rs, rfl, g2, hA⟩ := dqAll_cons hA
    obtain rfl := dqAll_nil hA
    cases g0
    cases bl with
    | @left _ u' ba =>
      obtain ⟨av, ys, rfl, hy, hB'⟩ := dq_tuple hD
      obtain ⟨y0, rs, rfl, q0, hB'⟩ := dqAll_cons hB'
      obtain ⟨y1, rs, rfl, q1, hB'⟩ := dqAll_cons hB'
      obtain rfl := dqAll_nil hB'
      cases q0
      refine ⟨_, rfl, ad, _, 0, _, rfl, rfl, s1.seqT hx, atI_nat (j := 0) rfl, z3 (by show 2 ≤ 20; decide), fun t0 h0 => ?_⟩
      have s0 := same_new h0 (.tup (lTu.map V.str))
      refine ⟨t0, _, rfl, .inr (SqT.of upd_same), rfl, flat_strs lTu, _, rfl, ?_⟩
      show if inV (V.str "either") (lTu.map V.str) = true then _ else _
      refine iteN (by decide +kernel) ?_
      have s2 := s1.trans s0
      refine ⟨_, rfl, ad, _, 0, _, rfl, rfl, s2.seqT hx, atI_nat (j := 0) rfl, rfl, _, rfl, iteN (by decide +kernel) ?_⟩
      refine ⟨_, rfl, av, _, 0, _, rfl, rfl, s2.seqT hy, atI_nat (j := 0) rfl, _, rfl, _, rfl, _, rfl, av, _, 0, _, rfl, rfl, s2.seqT hy, atI_nat (j := 0) rfl, rfl, _, rfl, iteY (by decide +kernel) ?_⟩
      refine ⟨ad, _, 1, _, rfl, rfl, s2.seqT hx, atI_nat (j := 1) rfl, _, rfl, av, _, 1, _, rfl, rfl, s2.seqT hy, atI_nat (j := 1) rfl, vB, x1, y1, ds, n2, ka, u, u', rfl, Dq.mono s2 _ _ hB, rp, few, Dq.mono s2 _ _ g1, Dq.mono s2 _ _ q1, va, by omega, ba, fun r4 H4 s4 D4 => ⟨z3 (by show 2 ≤ 20; decide), fun p o hp' ho => ?_⟩⟩
      have s5 := same_new hp' (.frz o (.tup [.str "left", r4]))
      exact q _ _ (s2.trans (s4.trans s5)) (.tup (SqP.of upd_same ho) (.cons (.str _) (.cons (Dq.mono s5 _ _ D4) .nil)))
  | @right n2 ka kb u va =>
    obtain ⟨ad, xs, rfl, hx, hA⟩ := dq_tuple D1
    obtain ⟨x0, rs, rfl, g0, hA⟩ := dqAll_cons hA
    obtain ⟨x1, rs, rfl, g1, hA⟩ := dqAll_cons hA
    obtain ⟨x2, rs, rfl, g2, hA⟩ := dqAll_cons hA
    obtain rfl := dqAll_nil hA
    cases g0
    cases bl with
    | @right _ u' ba =>
      obtain ⟨av, ys, rfl, hy, hB'⟩ := dq_tuple hD
      obtain ⟨y0, rs, rfl, q0, hB'⟩ := dqAll_cons hB'
      obtain ⟨y1, rs, rfl, q1, hB'⟩ := dqAll_cons hB'
      obtain rfl := dqAll_nil hB'
      cases q0
      refine ⟨_, rfl, ad, _, 0, _, rfl, rfl, s1.seqT hx, atI_nat (j := 0) rfl, z3 (by show 2 ≤ 20; decide), fun t0 h0 => ?_⟩
      have s0 := same_new h0 (.tup (lTu.map V.str))
      refine ⟨t0, _, rfl, .inr (SqT.of upd_same), rfl, flat_strs lTu, _, rfl, ?_⟩
      show if inV (V.str "either") (lTu.map V.str) = true then _ else _
      refine iteN (by decide +kernel) ?_
      have s2 := s1.trans s0
      refine ⟨_, rfl, ad, _, 0, _, rfl, rfl, s2.seqT hx, atI_nat (j := 0) rfl, rfl, _, rfl, iteN (by decide +kernel) ?_⟩
      refine ⟨_, rfl, av, _, 0, _, rfl, rfl, s2.seqT hy, atI_nat (j := 0) rfl, _, rfl, _, rfl, _, rfl, av, _, 0, _, rfl, rfl, s2.seqT hy, atI_nat (j := 0) rfl, rfl, _, rfl, iteN (by decide +kernel) ?_⟩
      refine ⟨ad, _, 2, _, rfl, rfl, s2.seqT hx, atI_nat (j := 2) rfl, _, rfl, av, _, 1, _, rfl, rfl, s2.seqT hy, atI_nat (j := 1) rfl, vB, x2, y1, ds, n2, kb, u, u', rfl, Dq.mono s2 _ _ hB, rp, few, Dq.mono s2 _ _ g2, Dq.mono s2 _ _ q1, va, by omega, ba, fun r4 H4 s4 D4 => ⟨z3 (by show 2 ≤ 20; decide), fun p o hp' ho => ?_⟩⟩
      have s5 := same_new hp' (.frz o (.tup [.str "right", r4]))
      exact q _ _ (s2.trans (s4.trans s5)) (.tup (SqP.of upd_same ho) (.cons (.str _) (.cons (Dq.mono s5 _ _ D4) .nil)))
theorem no_bl {vs : List V} {H : Hp} {Q : VK} {E : XK} (h : spBl K 0 vs H Q E) : False := by
  obtain ⟨vB, vK, vD, ds, n, k, d, d', _, _, _, _, _, _, val, nN, _⟩ := h
  have := val.pos
  omega
theorem none_bl {f : Addr} {fd : FuncData} {k : Nat} : FnOk P w K mg base CX0 k f fd ["book", "kind", "value"] (spBl K 0) := ⟨fun _ _ _ _ h => (no_bl h).elim, fun _ _ _ _ _ _ _ _ _ _ _ _ _ h => (no_bl h).elim⟩
theorem blanks {f gB : Addr} {fd dB : FuncData} (F : Fun K "_law_blank" "_law_blank" sBl f fd) (bF : Binds K fd ["book", "kind", "value"] []) (mF : mg "_law_blank" = some (.ref f)) (BR : Gv P w K mg base 2 "_law_bare" gB dB ["book", "kind"] (spBr K)) : ∀ n : Nat, Gv P w K mg base (2 + n) "_law_blank" f fd ["book", "kind", "value"] (spBl K n)
  | 0 => ⟨none_bl, bF, F.kp, mF⟩
  | n + 1 => ⟨ok_blank (k := 2 + n) (by omega) F BR (blanks F bF mF BR n), bF, F.kp, mF⟩
end
end Toy
set_option Elab.async false
set_option linter.all false
set_option maxRecDepth 100000
set_option maxHeartbeats 4000000
namespace Toy
open PySem L2 PyProof.Rows
abbrev sVt : Stmt := top 79
abbrev sNx : Stmt := top 55
/-! ### values shown -/
def nT (i : Int) : Str := toString i
/-- n bears the parts, b tells whether things are left out -/
inductive Tx (bk : List (Str × PyData)) (b : Bool) : Nat → PyData → PyData → Str → Prop
  | num {n : Nat} {i : Int} : b = false → -(10 ^ 400) ≤ i → i ≤ 10 ^ 400 → Tx bk b (n + 1) kThing (.int i) (nT i)
  | star {n : Nat} : b = true → Tx bk b (n + 1) kThing (.tuple []) "*"
  | unit {n : Nat} : Tx bk b (n + 1) kUnit (.tuple []) "()"
  | name {n : Nat} {x : Str} {k v : PyData} {s : Str} : lookB bk x = some k → Tx bk b n k v s → Tx bk b (n + 1) (kName x) v s
  | pair {n m p : Nat} {ka kb u v : PyData} {s t : Str} : Tx bk b m ka u s → Tx bk b p kb v t → m + p + 1 ≤ n → Tx bk b n (kPair ka kb) (vPair u v) ("(" ++ s ++ ", " ++ t ++ ")")
  | left {n : Nat} {ka kb u : PyData} {s : Str} : Tx bk b n ka u s → Tx bk b (n + 1) (kEith ka kb) (vLeft u) ("left" ++ "(" ++ s ++ ")")
  | right {n : Nat} {ka kb u : PyData} {s : Str} : Tx bk b n kb u s → Tx bk b (n + 1) (kEith ka kb) (vRight u) ("right" ++ "(" ++ s ++ ")")
theorem tx_of {L : PyData → Prop} {b : Bool} {bk : List (Str × PyData)} (hL : ∀ n d, L d → ∃ t, Tx bk b (n + 1) kThing d t) {n : Nat} {k d : PyData} (h : Val L bk n k d) : ∃ t, Tx bk b n k d t := by
  induction h with
  | thing l => exact hL _ _ l
  | unit => exact ⟨_, .unit⟩
  | name l _ ih =>
    obtain ⟨t, h⟩ := ih
    exact ⟨t, .name l h⟩
  | pair _ _ le ia ib =>
    obtain ⟨s, a⟩ := ia
    obtain ⟨t, c⟩ := ib
    exact ⟨_, .pair a c le⟩
  | left _ ih =>
    obtain ⟨t, h⟩ := ih
    exact ⟨_, .left h⟩
  | right _ ih =>
    obtain ⟨t, h⟩ := ih
    exact ⟨_, .right h⟩
theorem tx_num {bk : List (Str × PyData)} {n : Nat} {k d : PyData} (h : Val numOk bk n k d) : ∃ t, Tx bk false n k d t := tx_of (fun n d l => by
  obtain ⟨i, rfl, a, c⟩ := l
  exact ⟨_, .num rfl a c⟩) h
theorem tx_star {bk : List (Str × PyData)} {n : Nat} {k d : PyData} (h : Val emptyD bk n k d) : ∃ t, Tx bk true n k d t := tx_of (fun n d l => by
  obtain rfl : d = .tuple [] := l
  exact ⟨_, .star rfl⟩) h
theorem Tx.pos {bk : List (Str × PyData)} {b : Bool} {n : Nat} {k d : PyData} {t : Str} (h : Tx bk b n k d t) : 1 ≤ n := by
  cases h <;> omega
theorem Tx.up {bk : List (Str × PyData)} {b : Bool} {n : Nat} {k d : PyData} {t : Str} (h : Tx bk b n k d t) : ∀ {m : Nat}, n ≤ m → Tx bk b m k d t := by
  induction h with
  | num e a c =>
    intro m hm
    obtain ⟨m, rfl⟩ : ∃ z, m = z + 1 := ⟨m - 1, by omega⟩
    exact .num e a c
  | star e =>
    intro m hm
    obtain ⟨m, rfl⟩ : ∃ z, m = z + 1 := ⟨m - 1, by omega⟩
    exact .star e
  | unit =>
    intro m hm
    obtain ⟨m, rfl⟩ : ∃ z, m = z + 1 := ⟨m - 1, by omega⟩
    exact .unit
  | name l _ ih =>
    intro m hm
    obtain ⟨m, rfl⟩ : ∃ z, m = z + 1 := ⟨m - 1, by omega⟩
    exact .name l (ih (by omega))
  | pair a c le _ _ =>
    intro m hm
    exact .pair a c (by omega)
  | left _ ih =>
    intro m hm
    obtain ⟨m, rfl⟩ : ∃ z, m = z + 1 := ⟨m - 1, by omega⟩
    exact .left (ih (by omega))
  | right _ ih =>
    intro m hm
    obtain ⟨m, rfl⟩ : ∃ z, m = z + 1 := ⟨m - 1, by omega⟩
    exact .right (ih (by omega))
theorem num_log {i : Int} (a : -(10 ^ 400) ≤ i) (c : i ≤ 10 ^ 400) : i.natAbs.log2 < 1920 := by
  by_cases h0 : i.natAbs = 0
  · rw [h0]; decide
  · have z : i.natAbs ≤ 10 ^ 400 := by omega
    have : i.natAbs < 2 ^ 1900 := Nat.lt_of_le_of_lt z (by decide +kernel)
    have := (Nat.log2_lt h0).mpr this
    omega
theorem num_len {i : Int} (a : -(10 ^ 400) ≤ i) (c : i ≤ 10 ^ 400) : (nT i).length ≤ 402 := by
  have := int_text_length_le10 (a := i) (k := 401) (by decide) (Nat.lt_of_le_of_lt (by omega : i.natAbs ≤ 10 ^ 400) (by decide +kernel))
  show (Str.ofString (toString i)).length ≤ 402
  rw [PySem.ofString_length]
  omega
theorem Tx.len {bk : List (Str × PyData)} {b : Bool} {n : Nat} {k d : PyData} {t : Str} (h : Tx bk b n k d t) : t.length ≤ 402 * n := by
  induction h with
  | num e a c =>
    have := num_len a c
    omega
  | star _ =>
    have : (("*" : Str)).length = 1 := by decide +kernel
    omega
  | unit =>
    have : (("()" : Str)).length = 2 := by decide +kernel
    omega
  | name _ _ ih => omega
  | pair _ _ le ia ib =>
    have a1 : (("(" : Str)).length = 1 := by decide +kernel
    have a2 : ((", " : Str)).length = 2 := by decide +kernel
    have a3 : ((")" : Str)).length = 1 := by decide +kernel
    rw [Str.length_append, Str.length_append, Str.length_append, Str.length_append]
    omega
  | left _ ih =>
    have a1 : (("(" : Str)).length = 1 := by decide +kernel
    have a2 : (("left" : Str)).length = 4 := by decide +kernel
    have a3 : ((")" : Str)).length = 1 := by decide +kernel
    rw [Str.length_append, Str.length_append, Str.length_append]
    omega
  | right _ ih =>
    have a1 : (("(" : Str)).length = 1 := by decide +kernel
    have a2 : (("right" : Str)).length = 5 := by decide +kernel
    have a3 : ((")" : Str)).length = 1 := by decide +kernel
    rw [Str.length_append, Str.length_append, Str.length_append]
    omega
theorem tx_bare {bk : List (Str × PyData)} {b : Bool} {n : Nat} {k d : PyData} {t : Str} (h : Tx bk b n k d t) : ∃ m k' n', Hops bk m k k' ∧ Bare k' ∧ Tx bk b n' k' d t ∧ n' ≤ n := by
  induction h with
  | @num n i e a c => exact ⟨0, _, _, .stop ⟨_, _, rfl, by decide⟩, ⟨_, _, rfl, by decide⟩, .num (n := n) e a c, Nat.le_refl _⟩
  | @star n e => exact ⟨0, _, _, .stop ⟨_, _, rfl, by decide⟩, ⟨_, _, rfl, by decide⟩, .star (n := n) e, Nat.le_refl _⟩
  | @unit n => exact ⟨0, _, _, .stop ⟨_, _, rfl, by decide⟩, ⟨_, _, rfl, by decide⟩, .unit (n := n), Nat.le_refl _⟩
  | name l _ ih =>
    obtain ⟨m, k', n', a, c, t, le⟩ := ih
    exact ⟨m + 1, k', n', .step l a, c, t, by omega⟩
  | pair a c le _ _ => exact ⟨0, _, _, .stop ⟨_, _, rfl, by decide⟩, ⟨_, _, rfl, by decide⟩, .pair a c le, Nat.le_refl _⟩
  | left a _ => exact ⟨0, _, _, .stop ⟨_, _, rfl, by decide⟩, ⟨_, _, rfl, by decide⟩, .left a, Nat.le_refl _⟩
  | right a _ => exact ⟨0, _, _, .stop ⟨_, _, rfl, by decide⟩, ⟨_, _, rfl, by decide⟩, .right a, Nat.le_refl _⟩
def cat : List Str → Str
  | [] => Str.empty
  | x :: r => x ++ cat r
theorem cat_app : ∀ a c : List Str, cat (a ++ c) = cat a ++ cat c
  | [], c => (Str.empty_append _).symm
  | x :: a, c => by
    show x ++ cat (a ++ c) = x ++ cat a ++ cat c
    rw [cat_app a c, Str.append_assoc]
theorem join_cat : ∀ ts : List Str, Txt.join "" ts = cat ts := fun ts => by
  show Builtin.Str.glued "" ts = _
  rw [StrLaws.glued_eq_join]
  induction ts with
  | nil => rfl
  | cons x r ih =>
    cases r with
    | nil => exact (Str.append_empty x).symm
    | cons y r =>
      show x ++ "" ++ Str.join "" (y :: r) = x ++ cat (y :: r)
      rw [ih, show ("" : Str) = Str.empty from rfl, Str.append_empty]
/-- what waits: a text, or a part -/
def ItR (K : PySem.W.Frag) (bk : List (Str × PyData)) (b : Bool) (H : Hp) (x : V) (c : Nat × Str) : Prop :=
  (x = .str c.2 ∧ c.1 = 1) ∨ ∃ (k d : PyData) (n : Nat), Dq K H x (.tuple [k, d]) ∧ plB k = true ∧ plB d = true ∧ Tx bk b n k d c.2 ∧ c.1 = 5 * n
theorem ItR.ts {K : PySem.W.Frag} {bk : List (Str × PyData)} {b : Bool} {H H' : Hp} (e : TS H H') {x : V} {c : Nat × Str} (h : ItR K bk b H x c) : ItR K bk b H' x c := by
  rcases h with h | ⟨k, d, n, D, pk, pd, t, w⟩
  · exact .inl h
  · refine .inr ⟨k, d, n, Dq.ts e _ _ ?_ D, pk, pd, t, w⟩
    show (plB k && (plB d && true)) = true
    rw [pk, pd]
    rfl
theorem its_ts {K : PySem.W.Frag} {bk : List (Str × PyData)} {b : Bool} {H H' : Hp} (e : TS H H') : ∀ {ws : List V} {st : List (Nat × Str)}, Paired (ItR K bk b H) ws st → Paired (ItR K bk b H') ws st
  | _, _, .nil => .nil
  | _, _, .cons r t => .cons (ItR.ts e r) (its_ts e t)
theorem ItR.pos {K : PySem.W.Frag} {bk : List (Str × PyData)} {b : Bool} {H : Hp} {x : V} {c : Nat × Str} (h : ItR K bk b H x c) : 1 ≤ c.1 := by
  rcases h with h | ⟨k, d, n, D, pk, pd, t, w⟩
  · rw [h.2]; exact Nat.le_refl _
  · have := t.pos
    omega
theorem int_shp (i : Int) : SeqAt.shaped (.int i) = true := by
  show ((PyData.int i).canLay0 && decide ((PyData.int i).depth ≤ 64)) = true
  simp [PyData.canLay0, PyData.depth]
def spVt (K : PySem.W.Frag) (N : Nat) : Sp := fun vs H Q _ => ∃ (vB vK vD : V) (b : Bool) (ds : List PyData) (n : Nat) (k d : PyData) (t : Str), vs = [vB, vK, vD, .bl b] ∧ Dq K H vB (.tuple ds) ∧ RowsP ds ∧ ds.length ≤ 1000 ∧ Dq K H vK k ∧ Dq K H vD d ∧ Tx (bkOf (.tuple ds)) b n k d t ∧ n ≤ N ∧ n ≤ 1000 ∧ ∀ H', Same H H' → Q (.str t) H'
def spNx (K : PySem.W.Frag) : Sp := fun vs H Q _ => ∃ (u v : V) (bk : List (Str × PyData)) (b : Bool) (n : Nat) (k d : PyData) (t : Str), vs = [u, v] ∧ Dq K H u k ∧ Dq K H v d ∧ plB k = true ∧ plB d = true ∧ Bare k ∧ Tx bk b n k d t ∧ n ≤ 1000 ∧
  ∀ l H' ws its, Same H H' → H l = none → H' l = some (.lst ws) → Paired (ItR K bk b H') ws its → cat (its.reverse.map (·.2)) = t → (its.map (·.1)).sum + 1 ≤ 5 * n → Q (.ref l) H'
def spTv (K : PySem.W.Frag) : Sp := fun vs H Q _ => ∃ (t : Addr) (u v : V) (bk : List (Str × PyData)) (b : Bool) (n : Nat) (k d : PyData) (s : Str), vs = [.ref t, u, v] ∧ Tab K H t bk ∧ bk.length ≤ 1000 ∧ BkP bk ∧ Dq K H u k ∧ Dq K H v d ∧ plB k = true ∧ plB d = true ∧ Tx bk b n k d s ∧ n ≤ 1000 ∧ ∀ H', Same H H' → Q (.str s) H'
section
variable {P : Program} {w : World} {K : PySem.W.Frag} {mg : Str → Option Value} {base : Heap}
theorem scVt : FnScope ["book", "kind", "value", "is_blank", "bare", "one"] ["book", "kind", "value", "is_blank"] (defScope sVt) := ⟨rfl, rfl, rfl, by decide +kernel, rfl, by decide +kernel, by decide +kernel⟩
theorem scNx : FnScope ["kind", "value", "word"] ["kind", "value"] (defScope sNx) := ⟨rfl, rfl, rfl, by decide +kernel, rfl, by decide +kernel, by decide +kernel⟩
theorem ok_vtext {f gB : Addr} {fd dB : FuncData} {N k : Nat} (hk : 2 ≤ k) (F : Fun K "_law_value_text" "_law_value_text" sVt f fd) (U : Nt mg) (BR : Gv P w K mg base 2 "_law_bare" gB dB ["book", "kind"] (spBr K)) (R : Gv P w K mg base k "_law_value_text" f fd ["book", "kind", "value", "is_blank"] (spVt K N)) : FnOk P w K mg base CX0 (k + 1) f fd ["book", "kind", "value", "is_blank"] (spVt K (N + 1)) := by
  refine F.ok scVt (fun vs H Q E h => ?_) (fun cdv A outer s H vs Q E hr h => ?_)
  · obtain ⟨vB, vK, vD, b, ds, n, k, d, t, rfl, _⟩ := h
    rfl
  obtain ⟨vB, vK, vD, b, ds, n, k, d, t, rfl, hB, rp, few, hK, hD, tx, nN, nn, q⟩ := h
  have hr2 : Room 2 (A.deeper _) := hr.mono hk
  refine ⟨_, (pss_cons (ps_set (i := 4) scVt.nd rfl (.inl rfl) (pe_call BR.ok hr2 rfl BR.m BR.k BR.b .nil pass0 (pa_cons (pv 0) (pa_cons (pv 1) pa_nil))))
    (pss_cons (ps_if (pt_cmpR op_eq (pe_ix ix_tup (pv 4) pe_int (fun _ _ => rfl)) pe_str (nomark _)) (pss_one (ps_ret (pe_ifExp (pt_val (pv 3)) pe_str (pe_callTy call_str_int rfl U.str (by decide +kernel) (pa_cons (pv 2) pa_nil))))) pss_nil)
    (pss_cons (ps_if (pt_cmpR op_eq (pe_ix ix_tup (pv 4) pe_int (fun _ _ => rfl)) pe_str (nomark _)) (pss_one (ps_ret pe_str)) pss_nil)
    (pss_cons (ps_if (pt_cmpR op_eq (pe_ix ix_tup (pv 4) pe_int (fun _ _ => rfl)) pe_str (nomark _)) (pss_cons (ps_set (i := 5) scVt.nd rfl (.inl rfl) (pe_call R.ok hr rfl R.m R.k R.b .nil pass0 (pa_cons (pv 0) (pa_cons (pe_ix ix_tup (pv 4) pe_int (fun _ _ => rfl)) (pa_cons (pe_ix ix_tup (pv 2) pe_int (fun _ _ => rfl)) (pa_cons (pv 3) pa_nil))))))
    (pss_one (ps_ret (pe_op op_add_str (pe_op op_add_str (pe_op op_add_str (pe_op op_add_str pe_str (pv 5)) pe_str) (pe_call R.ok hr rfl R.m R.k R.b .nil pass0 (pa_cons (pv 0) (pa_cons (pe_ix ix_tup (pv 4) pe_int (fun _ _ => rfl)) (pa_cons (pe_ix ix_tup (pv 2) pe_int (fun _ _ => rfl)) (pa_cons (pv 3) pa_nil)))))) pe_str)))) pss_nil)
    (pss_one (ps_ret (pe_op op_add_str (pe_op op_add_str (pe_op op_add_str (pe_ix ix_tup (pv 2) pe_int (fun _ _ => rfl)) pe_str) (pe_call R.ok hr rfl R.m R.k R.b .nil pass0 (pa_cons (pv 0) (pa_cons (pe_ix ix_tup (pv 4) (pe_ifExp (pt_cmpR op_eq (pe_ix ix_tup (pv 2) pe_int (fun _ _ => rfl)) pe_str (nomark _)) pe_int pe_int) (fun _ _ => rfl)) (pa_cons (pe_ix ix_tup (pv 2) pe_int (fun _ _ => rfl)) (pa_cons (pv 3) pa_nil)))))) pe_str))))))), ?_⟩
  have z3 : ∀ {k : Nat}, k ≤ 500000 → k ≤ sizeLine := fun h => Nat.le_trans h (by decide)
  obtain ⟨m, k2, n2, hp, br, t2, le⟩ := tx_bare tx
  have a1 : (("(" : Str)).length = 1 := by decide +kernel
  have a2 : ((", " : Str)).length = 2 := by decide +kernel
  have a3 : ((")" : Str)).length = 1 := by decide +kernel
  have a4 : (("left" : Str)).length = 4 := by decide +kernel
  have a5 : (("right" : Str)).length = 5 := by decide +kernel
  refine ⟨_, rfl, _, rfl, H, vB, vK, ds, m, k, k2, rfl, Same.refl _, hB, rp, few, hK, hp, fun u1 H1 s1 D1 => ?_⟩
  cases t2 with
  | @num n2 i e lo hi =>
    obtain ⟨ad, xs, rfl, hx, hA⟩ := dq_tuple D1
    obtain ⟨x0, rs, rfl, g0, hA⟩ := dqAll_cons hA
    cases g0
    cases hD
    subst e
    refine ⟨_, rfl, ad, _, 0, _, rfl, rfl, s1.seqT hx, atI_nat (j := 0) rfl, rfl, _, rfl, iteY (by decide +kernel) ?_⟩
    refine ⟨_, rfl, _, rfl, iteF ?_⟩
    exact ⟨_, rfl, i, rfl, num_log lo hi, q _ s1⟩
  | @star n2 e =>
    obtain ⟨ad, xs, rfl, hx, hA⟩ := dq_tuple D1
    obtain ⟨x0, rs, rfl, g0, hA⟩ := dqAll_cons hA
    cases g0
    subst e
    refine ⟨_, rfl, ad, _, 0, _, rfl, rfl, s1.seqT hx, atI_nat (j := 0) rfl, rfl, _, rfl, iteY (by decide +kernel) ?_⟩
    exact ⟨_, rfl, _, rfl, iteT (q _ s1)⟩
  | @unit n2 =>
    obtain ⟨ad, xs, rfl, hx, hA⟩ := dq_tuple D1
    obtain ⟨x0, rs, rfl, g0, hA⟩ := dqAll_cons hA
    cases g0
    refine ⟨_, rfl, ad, _, 0, _, rfl, rfl, s1.seqT hx, atI_nat (j := 0) rfl, rfl, _, rfl, iteN (by decide +kernel) ?_⟩
    refine ⟨_, rfl, ad, _, 0, _, rfl, rfl, s1.seqT hx, atI_nat (j := 0) rfl, rfl, _, rfl, iteY (by decide +kernel) ?_⟩
    exact q _ s1
  | name _ _ => exact (bare_name br).elim
  | @pair n2 m1 m2 ka kb u v sa sb ta tb le2 =>
    obtain ⟨ad, xs, rfl, hx, hA⟩ := dq_tuple D1
    obtain ⟨x0, rs, rfl, g0, hA⟩ := dqAll_cons hA
    obtain ⟨x1, rs, rfl, g1, hA⟩ := dqAll_cons hA
    obtain ⟨x2, rs, rfl, g2, hA⟩ := dqAll_cons hA
    obtain rfl := dqAll_nil hA
    cases g0
    obtain ⟨av, ys, rfl, hy, hB'⟩ := dq_tuple hD
    obtain ⟨y0, rs, rfl, q0, hB'⟩ := dqAll_cons hB'
    obtain ⟨y1, rs, rfl, q1, hB'⟩ := dqAll_cons hB'
    obtain ⟨y2, rs, rfl, q2, hB'⟩ := dqAll_cons hB'
    obtain rfl := dqAll_nil hB'
    have la := ta.len
    have lb := tb.len
    refine ⟨_, rfl, ad, _, 0, _, rfl, rfl, s1.seqT hx, atI_nat (j := 0) rfl, rfl, _, rfl, iteN (by decide +kernel) ?_⟩
    refine ⟨_, rfl, ad, _, 0, _, rfl, rfl, s1.seqT hx, atI_nat (j := 0) rfl, rfl, _, rfl, iteN (by decide +kernel) ?_⟩
    refine ⟨_, rfl, ad, _, 0, _, rfl, rfl, s1.seqT hx, atI_nat (j := 0) rfl, rfl, _, rfl, iteY (by decide +kernel) ?_⟩
    refine ⟨_, rfl, _, rfl, ad, _, 1, _, rfl, rfl, s1.seqT hx, atI_nat (j := 1) rfl, _, rfl, av, _, 1, _, rfl, rfl, s1.seqT hy, atI_nat (j := 1) rfl, _, rfl, vB, x1, y1, b, ds, m1, ka, u, sa, rfl, Dq.mono s1 _ _ hB, rp, few, Dq.mono s1 _ _ g1, Dq.mono s1 _ _ q1, ta, by omega, by omega, fun H3 s3 => ?_⟩
    have s13 := s1.trans s3
    have l1 : ("(" ++ sa).length = 1 + sa.length := by rw [Str.length_append, a1]
    have l2 : ("(" ++ sa ++ ", ").length = 1 + sa.length + 2 := by rw [Str.length_append, l1, a2]
    have l3 : ("(" ++ sa ++ ", " ++ sb).length = 1 + sa.length + 2 + sb.length := by rw [Str.length_append, l2]
    refine ⟨_, rfl, _, _, rfl, rfl, z3 (by omega), _, _, rfl, rfl, z3 (by omega), ?_⟩
    refine ⟨_, rfl, _, rfl, ad, _, 2, _, rfl, rfl, s13.seqT hx, atI_nat (j := 2) rfl, _, rfl, av, _, 2, _, rfl, rfl, s13.seqT hy, atI_nat (j := 2) rfl, _, rfl, vB, x2, y2, b, ds, m2, kb, v, sb, rfl, Dq.mono s13 _ _ hB, rp, few, Dq.mono s13 _ _ g2, Dq.mono s13 _ _ q2, tb, by omega, by omega, fun H4 s4 => ?_⟩
    exact ⟨_, _, rfl, rfl, z3 (by omega), _, _, rfl, rfl, z3 (by omega), q _ (s13.trans s4)⟩
  | @left n2 ka kb u sa ta =>
    obtain ⟨ad, xs, rfl, hx, hA⟩ := dq_tuple D1
    obtain ⟨x0, rs, rfl, g0, hA⟩ := dqAll_cons hA
    obtain ⟨x1, rs, rfl, g1, hA⟩ := dqAll_cons hA
    obtain ⟨x2, rs, rfl, g2, hA⟩ := dqAll_cons hA
    obtain rfl := dqAll_nil hA
    cases g0
    obtain ⟨av, ys, rfl, hy, hB'⟩ := dq_tuple hD
    obtain ⟨y0, rs, rfl, q0, hB'⟩ := dqAll_cons hB'
    obtain ⟨y1, rs, rfl, q1, hB'⟩ := dqAll_cons hB'
    obtain rfl := dqAll_nil hB'
    cases q0
    have la := ta.len
    refine ⟨_, rfl, ad, _, 0, _, rfl, rfl, s1.seqT hx, atI_nat (j := 0) rfl, rfl, _, rfl, iteN (by decide +kernel) ?_⟩
    refine ⟨_, rfl, ad, _, 0, _, rfl, rfl, s1.seqT hx, atI_nat (j := 0) rfl, rfl, _, rfl, iteN (by decide +kernel) ?_⟩
    refine ⟨_, rfl, ad, _, 0, _, rfl, rfl, s1.seqT hx, atI_nat (j := 0) rfl, rfl, _, rfl, iteN (by decide +kernel) ?_⟩
    have l1 : ("left" ++ "(" : Str).length = 5 := by rw [Str.length_append, a4, a1]
    have l2 : ("left" ++ "(" ++ sa : Str).length = 5 + sa.length := by rw [Str.length_append, l1]
    refine ⟨_, rfl, av, _, 0, _, rfl, rfl, s1.seqT hy, atI_nat (j := 0) rfl, _, _, rfl, rfl, z3 (by omega), ?_⟩
    refine ⟨_, rfl, _, rfl, _, rfl, av, _, 0, _, rfl, rfl, s1.seqT hy, atI_nat (j := 0) rfl, rfl, _, rfl, iteY (by decide +kernel) ?_⟩
    refine ⟨ad, _, 1, _, rfl, rfl, s1.seqT hx, atI_nat (j := 1) rfl, _, rfl, av, _, 1, _, rfl, rfl, s1.seqT hy, atI_nat (j := 1) rfl, _, rfl, vB, x1, y1, b, ds, n2, ka, u, sa, rfl, Dq.mono s1 _ _ hB, rp, few, Dq.mono s1 _ _ g1, Dq.mono s1 _ _ q1, ta, by omega, by omega, fun H3 s3 => ?_⟩
    exact ⟨_, _, rfl, rfl, z3 (by omega), _, _, rfl, rfl, z3 (by omega), q _ (s1.trans s3)⟩
  | @right n2 ka kb u sa ta =>
    obtain ⟨ad, xs, rfl, hx, hA⟩ := dq_tuple D1
    obtain ⟨x0, rs, rfl, g0, hA⟩ := dqAll_cons hA
    obtain ⟨x1, rs, rfl, g1, hA⟩ := dqAll_cons hA
    obtain ⟨x2, rs, rfl, g2, hA⟩ := dqAll_cons hA
    obtain rfl := dqAll_nil hA
    cases g0
    obtain ⟨av, ys, rfl, hy, hB'⟩ := dq_tuple hD
    obtain ⟨y0, rs, rfl, q0, hB'⟩ := dqAll_cons hB'
    obtain ⟨y1, rs, rfl, q1, hB'⟩ := dqAll_cons hB'
    obtain rfl := dqAll_nil hB'
    cases q0
    have la := ta.len
    refine ⟨_, rfl, ad, _, 0, _, rfl, rfl, s1.seqT hx, atI_nat (j := 0) rfl, rfl, _, rfl, iteN (by decide +kernel) ?_⟩
    refine ⟨_, rfl, ad, _, 0, _, rfl, rfl, s1.seqT hx, atI_nat (j := 0) rfl, rfl, _, rfl, iteN (by decide +kernel) ?_⟩
    refine ⟨_, rfl, ad, _, 0, _, rfl, rfl, s1.seqT hx, atI_nat (j := 0) rfl, rfl, _, rfl, iteN (by decide +kernel) ?_⟩
    have l1 : ("right" ++ "(" : Str).length = 6 := by rw [Str.length_append, a5, a1]
    have l2 : ("right" ++ "(" ++ sa : Str).length = 6 + sa.length := by rw [Str.length_append, l1]
    refine ⟨_, rfl, av, _, 0, _, rfl, rfl, s1.seqT hy, atI_nat (j := 0) rfl, _, _, rfl, rfl, z3 (by omega), ?_⟩
    refine ⟨_, rfl, _, rfl, _, rfl, av, _, 0, _, rfl, rfl, s1.seqT hy, atI_nat (j := 0) rfl, rfl, _, rfl, iteN (by decide +kernel) ?_⟩
    refine ⟨ad, _, 2, _, rfl, rfl, s1.seqT hx, atI_nat (j := 2) rfl, _, rfl, av, _, 1, _, rfl, rfl, s1.seqT hy, atI_nat (j := 1) rfl, _, rfl, vB, x2, y1, b, ds, n2, kb, u, sa, rfl, Dq.mono s1 _ _ hB, rp, few, Dq.mono s1 _ _ g2, Dq.mono s1 _ _ q1, ta, by omega, by omega, fun H3 s3 => ?_⟩
    exact ⟨_, _, rfl, rfl, z3 (by omega), _, _, rfl, rfl, z3 (by omega), q _ (s1.trans s3)⟩
theorem no_vt {vs : List V} {H : Hp} {Q : VK} {E : XK} (h : spVt K 0 vs H Q E) : False := by
  obtain ⟨vB, vK, vD, b, ds, n, k, d, t, _, _, _, _, _, _, tx, nN, _⟩ := h
  have := tx.pos
  omega
theorem none_vt {f : Addr} {fd : FuncData} {k : Nat} : FnOk P w K mg base CX0 k f fd ["book", "kind", "value", "is_blank"] (spVt K 0) := ⟨fun _ _ _ _ h => (no_vt h).elim, fun _ _ _ _ _ _ _ _ _ _ _ _ _ h => (no_vt h).elim⟩
theorem vtexts {f gB : Addr} {fd dB : FuncData} (F : Fun K "_law_value_text" "_law_value_text" sVt f fd) (bF : Binds K fd ["book", "kind", "value", "is_blank"] []) (mF : mg "_law_value_text" = some (.ref f)) (U : Nt mg) (BR : Gv P w K mg base 2 "_law_bare" gB dB ["book", "kind"] (spBr K)) : ∀ n : Nat, Gv P w K mg base (2 + n) "_law_value_text" f fd ["book", "kind", "value", "is_blank"] (spVt K n)
  | 0 => ⟨none_vt, bF, F.kp, mF⟩
  | n + 1 => ⟨ok_vtext (k := 2 + n) (by omega) F U BR (vtexts F bF mF U BR n), bF, F.kp, mF⟩
theorem ok_next {f gS : Addr} {fd dS : FuncData} (F : Fun K "shown_next" "shown_next" sNx f fd) (U : Nt mg) (KS : Gv P w K mg base 1 "kind_on_side" gS dS ["kind", "side"] (spKs K)) : FnOk P w K mg base CX0 2 f fd ["kind", "value"] (spNx K) := by
  refine F.ok scNx (fun vs H Q E h => ?_) (fun cdv A outer s H vs Q E hr h => ?_)
  · obtain ⟨u, v, bk, b, n, k, d, t, rfl, _⟩ := h
    rfl
  obtain ⟨u, v, bk, b, n, k, d, t, rfl, hK, hD, pk, pd, br, tx, nn, q⟩ := h
  refine ⟨_, (pss_cons (ps_set (i := 2) scNx.nd rfl (.inl rfl) (pe_ix ix_tup (pv 0) pe_int (fun _ _ => rfl)))
    (pss_cons (ps_if (pt_cmpR op_eq (pv 2) pe_str (nomark _)) (pss_one (ps_ret (pe_lst (pa_cons (pe_ifExp (pt_cmpR (op_eqD hr.units) (pv 1) (pe_tupN pa_nil) (nomark _)) pe_str (pe_callTy call_str_int rfl U.str (by decide +kernel) (pa_cons (pv 1) pa_nil))) pa_nil)))) pss_nil)
    (pss_cons (ps_if (pt_cmpR op_eq (pv 2) pe_str (nomark _)) (pss_one (ps_ret (pe_lst (pa_cons pe_str pa_nil)))) pss_nil)
    (pss_cons (ps_if (pt_cmpR op_eq (pv 2) pe_str (nomark _)) (pss_one (ps_ret (pe_lst (pa_cons pe_str (pa_cons (pe_tupN (pa_cons (pe_ix ix_tup (pv 0) pe_int (fun _ _ => rfl)) (pa_cons (pe_ix ix_tup (pv 1) pe_int (fun _ _ => rfl)) pa_nil))) (pa_cons pe_str (pa_cons (pe_tupN (pa_cons (pe_ix ix_tup (pv 0) pe_int (fun _ _ => rfl)) (pa_cons (pe_ix ix_tup (pv 1) pe_int (fun _ _ => rfl)) pa_nil))) (pa_cons pe_str pa_nil)))))))) pss_nil)
    (pss_one (ps_ret (pe_lst (pa_cons pe_str (pa_cons (pe_tupN (pa_cons (pe_call KS.ok hr rfl KS.m KS.k KS.b .nil pass0 (pa_cons (pv 0) (pa_cons (pe_ix ix_tup (pv 1) pe_int (fun _ _ => rfl)) pa_nil))) (pa_cons (pe_ix ix_tup (pv 1) pe_int (fun _ _ => rfl)) pa_nil))) (pa_cons (pe_op op_add_str (pe_ix ix_tup (pv 1) pe_int (fun _ _ => rfl)) pe_str) pa_nil)))))))))), ?_⟩
  have z3 : ∀ {k : Nat}, k ≤ 200 → k ≤ sizeLine := fun h => Nat.le_trans h (by decide)
  have a1 : (("(" : Str)).length = 1 := by decide +kernel
  have a4 : (("left" : Str)).length = 4 := by decide +kernel
  have a5 : (("right" : Str)).length = 5 := by decide +kernel
  cases tx with
  | @num n2 i e lo hi =>
    obtain ⟨ad, xs, rfl, hx, hA⟩ := dq_tuple hK
    obtain ⟨x0, rs, rfl, g0, hA⟩ := dqAll_cons hA
    cases g0
    cases hD
    refine ⟨_, rfl, ad, _, 0, _, rfl, rfl, hx, atI_nat (j := 0) rfl, ?_⟩
    refine ⟨_, rfl, rfl, _, rfl, iteY (by decide +kernel) ?_⟩
    refine ⟨_, rfl, z3 (by show 0 ≤ 200; decide), fun p o hp ho => ?_⟩
    have s1 := same_new hp (.frz o (.tup []))
    refine ⟨.int i, .tuple [], .int i, .tup (SqP.of upd_same ho).seqT .nil, int_shp i, by decide +kernel, _, rfl, iteN (by simp [PyData.eqv]) ?_⟩
    refine ⟨_, rfl, i, rfl, num_log lo hi, z3 (by show 1 ≤ 200; decide), fun l hl => ?_⟩
    exact q l _ [.str (nT i)] [(1, nT i)] (s1.trans (same_new hl _)) (s1.free hl) upd_same (.cons (.inl ⟨rfl, rfl⟩) .nil) (Str.append_empty _) (by show 1 + 0 + 1 ≤ _; omega)
  | @star n2 e =>
    obtain ⟨ad, xs, rfl, hx, hA⟩ := dq_tuple hK
    obtain ⟨x0, rs, rfl, g0, hA⟩ := dqAll_cons hA
    cases g0
    obtain ⟨av, ys, rfl, hy, hB'⟩ := dq_tuple hD
    obtain rfl := dqAll_nil hB'
    refine ⟨_, rfl, ad, _, 0, _, rfl, rfl, hx, atI_nat (j := 0) rfl, ?_⟩
    refine ⟨_, rfl, rfl, _, rfl, iteY (by decide +kernel) ?_⟩
    refine ⟨_, rfl, z3 (by show 0 ≤ 200; decide), fun p o hp ho => ?_⟩
    have s1 := same_new hp (.frz o (.tup []))
    refine ⟨.tuple [], .tuple [], .tup (s1.seqT hy) .nil, .tup (SqP.of upd_same ho).seqT .nil, by decide +kernel, by decide +kernel, _, rfl, iteY (by simp [PyData.eqv, PyData.eqvAll]) ?_⟩
    refine ⟨z3 (by show 1 ≤ 200; decide), fun l hl => ?_⟩
    exact q l _ [.str "*"] [(1, "*")] (s1.trans (same_new hl _)) (s1.free hl) upd_same (.cons (.inl ⟨rfl, rfl⟩) .nil) (Str.append_empty _) (by show 1 + 0 + 1 ≤ _; omega)
  | @unit n2 =>
    obtain ⟨ad, xs, rfl, hx, hA⟩ := dq_tuple hK
    obtain ⟨x0, rs, rfl, g0, hA⟩ := dqAll_cons hA
    cases g0
    refine ⟨_, rfl, ad, _, 0, _, rfl, rfl, hx, atI_nat (j := 0) rfl, ?_⟩
    refine ⟨_, rfl, rfl, _, rfl, iteN (by decide +kernel) ?_⟩
    refine ⟨_, rfl, rfl, _, rfl, iteY (by decide +kernel) ?_⟩
    refine ⟨z3 (by show 1 ≤ 200; decide), fun l hl => ?_⟩
    exact q l _ [.str "()"] [(1, "()")] (same_new hl _) hl upd_same (.cons (.inl ⟨rfl, rfl⟩) .nil) (Str.append_empty _) (by show 1 + 0 + 1 ≤ _; omega)
  | name _ _ => exact (bare_name br).elim
  | @pair n2 m1 m2 ka kb u v sa sb ta tb le2 =>
    have pk' := pl_row pk
    have pd' := pl_row pd
    obtain ⟨ad, xs, rfl, hx, hA⟩ := dq_tuple hK
    obtain ⟨x0, rs, rfl, g0, hA⟩ := dqAll_cons hA
    obtain ⟨x1, rs, rfl, g1, hA⟩ := dqAll_cons hA
    obtain ⟨x2, rs, rfl, g2, hA⟩ := dqAll_cons hA
    obtain rfl := dqAll_nil hA
    cases g0
    obtain ⟨av, ys, rfl, hy, hB'⟩ := dq_tuple hD
    obtain ⟨y0, rs, rfl, q0, hB'⟩ := dqAll_cons hB'
    obtain ⟨y1, rs, rfl, q1, hB'⟩ := dqAll_cons hB'
    obtain ⟨y2, rs, rfl, q2, hB'⟩ := dqAll_cons hB'
    obtain rfl := dqAll_nil hB'
    refine ⟨_, rfl, ad, _, 0, _, rfl, rfl, hx, atI_nat (j := 0) rfl, ?_⟩
    refine ⟨_, rfl, rfl, _, rfl, iteN (by decide +kernel) ?_⟩
    refine ⟨_, rfl, rfl, _, rfl, iteN (by decide +kernel) ?_⟩
    refine ⟨_, rfl, rfl, _, rfl, iteY (by decide +kernel) ?_⟩
    refine ⟨_, rfl, ad, _, 2, _, rfl, rfl, hx, atI_nat (j := 2) rfl, _, rfl, av, _, 2, _, rfl, rfl, hy, atI_nat (j := 2) rfl, z3 (by show 2 ≤ 200; decide), fun p1 o1 hp1 ho1 => ?_⟩
    have s1 := same_new hp1 (.frz o1 (.tup [x2, y2]))
    have e1 : upd H p1 (.frz o1 (.tup [x2, y2])) p1 = some (.frz o1 (.tup [x2, y2])) := upd_same
    generalize upd H p1 (.frz o1 (.tup [x2, y2])) = H1 at s1 e1 ⊢
    refine ⟨_, rfl, ad, _, 1, _, rfl, rfl, s1.seqT hx, atI_nat (j := 1) rfl, _, rfl, av, _, 1, _, rfl, rfl, s1.seqT hy, atI_nat (j := 1) rfl, z3 (by show 2 ≤ 200; decide), fun p2 o2 hp2 ho2 => ?_⟩
    have s2 := same_new hp2 (.frz o2 (.tup [x1, y1]))
    have e2 : upd H1 p2 (.frz o2 (.tup [x1, y1])) p2 = some (.frz o2 (.tup [x1, y1])) := upd_same
    generalize upd H1 p2 (.frz o2 (.tup [x1, y1])) = H2 at s2 e2 ⊢
    refine ⟨z3 (by show 5 ≤ 200; decide), fun l hl => ?_⟩
    have s3 := same_new hl (.lst [.str ")", .ref p1, .str ", ", .ref p2, .str "("])
    have s13 := s1.trans (s2.trans s3)
    refine q l _ [.str ")", .ref p1, .str ", ", .ref p2, .str "("] [(1, ")"), (5 * m2, sb), (1, ", "), (5 * m1, sa), (1, "(")] s13 ((s1.trans s2).free hl) upd_same (.cons (.inl ⟨rfl, rfl⟩) (.cons (.inr ⟨kb, v, m2, ?_, pk'.2, pd'.2, tb, rfl⟩) (.cons (.inl ⟨rfl, rfl⟩) (.cons (.inr ⟨ka, u, m1, ?_, pk'.1, pd'.1, ta, rfl⟩) (.cons (.inl ⟨rfl, rfl⟩) .nil))))) ?_ ?_
    · exact .tup (SqP.of ((s2.trans s3) _ _ e1) ho1) (.cons (Dq.mono s13 _ _ g2) (.cons (Dq.mono s13 _ _ q2) .nil))
    · exact .tup (SqP.of (s3 _ _ e2) ho2) (.cons (Dq.mono s13 _ _ g1) (.cons (Dq.mono s13 _ _ q1) .nil))
    · show "(" ++ (sa ++ (", " ++ (sb ++ (")" ++ Str.empty)))) = _
      rw [Str.append_empty, Str.append_assoc, Str.append_assoc, Str.append_assoc]
    · show 1 + (5 * m2 + (1 + (5 * m1 + (1 + 0)))) + 1 ≤ _
      omega
  | @left n2 ka kb u sa ta =>
    have pk' := pl_row pk
    have pd' := pl_row1 pd
    have hK0 := hK
    obtain ⟨ad, xs, rfl, hx, hA⟩ := dq_tuple hK
    obtain ⟨x0, rs, rfl, g0, hA⟩ := dqAll_cons hA
    obtain ⟨x1, rs, rfl, g1, hA⟩ := dqAll_cons hA
    obtain ⟨x2, rs, rfl, g2, hA⟩ := dqAll_cons hA
    obtain rfl := dqAll_nil hA
    cases g0
    obtain ⟨av, ys, rfl, hy, hB'⟩ := dq_tuple hD
    obtain ⟨y0, rs, rfl, q0, hB'⟩ := dqAll_cons hB'
    obtain ⟨y1, rs, rfl, q1, hB'⟩ := dqAll_cons hB'
    obtain rfl := dqAll_nil hB'
    cases q0
    refine ⟨_, rfl, ad, _, 0, _, rfl, rfl, hx, atI_nat (j := 0) rfl, ?_⟩
    refine ⟨_, rfl, rfl, _, rfl, iteN (by decide +kernel) ?_⟩
    refine ⟨_, rfl, rfl, _, rfl, iteN (by decide +kernel) ?_⟩
    refine ⟨_, rfl, rfl, _, rfl, iteN (by decide +kernel) ?_⟩
    refine ⟨_, rfl, _, rfl, av, _, 0, _, rfl, rfl, hy, atI_nat (j := 0) rfl, .ref ad, "left", "either", ka, kb, rfl, hK0, fun x hxs => ?_⟩
    rw [side_l] at hxs
    have hxs : Dq K H x ka := hxs
    refine ⟨_, rfl, av, _, 1, _, rfl, rfl, hy, atI_nat (j := 1) rfl, z3 (by show 2 ≤ 200; decide), fun p1 o1 hp1 ho1 => ?_⟩
    have s1 := same_new hp1 (.frz o1 (.tup [x, y1]))
    have e1 : upd H p1 (.frz o1 (.tup [x, y1])) p1 = some (.frz o1 (.tup [x, y1])) := upd_same
    generalize upd H p1 (.frz o1 (.tup [x, y1])) = H1 at s1 e1 ⊢
    refine ⟨_, rfl, av, _, 0, _, rfl, rfl, s1.seqT hy, atI_nat (j := 0) rfl, _, _, rfl, rfl, z3 (by omega), z3 (by show 3 ≤ 200; decide), fun l hl => ?_⟩
    have s3 := same_new hl (.lst [.str ")", .ref p1, .str ("left" ++ "(")])
    have s13 := s1.trans s3
    refine q l _ [.str ")", .ref p1, .str ("left" ++ "(")] [(1, ")"), (5 * n2, sa), (1, "left" ++ "(")] s13 (s1.free hl) upd_same (.cons (.inl ⟨rfl, rfl⟩) (.cons (.inr ⟨ka, u, n2, ?_, pk'.1, pd', ta, rfl⟩) (.cons (.inl ⟨rfl, rfl⟩) .nil))) ?_ ?_
    · exact .tup (SqP.of (s3 _ _ e1) ho1) (.cons (Dq.mono s13 _ _ hxs) (.cons (Dq.mono s13 _ _ q1) .nil))
    · show "left" ++ "(" ++ (sa ++ (")" ++ Str.empty)) = _
      rw [Str.append_empty, Str.append_assoc, Str.append_assoc, Str.append_assoc]
    · show 1 + (5 * n2 + (1 + 0)) + 1 ≤ _
      omega
  | @right n2 ka kb u sa ta =>
    have pk' := pl_row pk
    have pd' := pl_row1 pd
    have hK0 := hK
    obtain ⟨ad, xs, rfl, hx, hA⟩ := dq_tuple hK
    obtain ⟨x0, rs, rfl, g0, hA⟩ := dqAll_cons hA
    obtain ⟨x1, rs, rfl, g1, hA⟩ := dqAll_cons hA
    obtain ⟨x2, rs, rfl, g2, hA⟩ := dqAll_cons hA
    obtain rfl := dqAll_nil hA
    cases g0
    obtain ⟨av, ys, rfl, hy, hB'⟩ := dq_tuple hD
    obtain ⟨y0, rs, rfl, q0, hB'⟩ := dqAll_cons hB'
    obtain ⟨y1, rs, rfl, q1, hB'⟩ := dqAll_cons hB'
    obtain rfl := dqAll_nil hB'
    cases q0
    refine ⟨_, rfl, ad, _, 0, _, rfl, rfl, hx, atI_nat (j := 0) rfl, ?_⟩
    refine ⟨_, rfl, rfl, _, rfl, iteN (by decide +kernel) ?_⟩
    refine ⟨_, rfl, rfl, _, rfl, iteN (by decide +kernel) ?_⟩
    refine ⟨_, rfl, rfl, _, rfl, iteN (by decide +kernel) ?_⟩
    refine ⟨_, rfl, _, rfl, av, _, 0, _, rfl, rfl, hy, atI_nat (j := 0) rfl, .ref ad, "right", "either", ka, kb, rfl, hK0, fun x hxs => ?_⟩
    rw [side_r] at hxs
    have hxs : Dq K H x kb := hxs
    refine ⟨_, rfl, av, _, 1, _, rfl, rfl, hy, atI_nat (j := 1) rfl, z3 (by show 2 ≤ 200; decide), fun p1 o1 hp1 ho1 => ?_⟩
    have s1 := same_new hp1 (.frz o1 (.tup [x, y1]))
    have e1 : upd H p1 (.frz o1 (.tup [x, y1])) p1 = some (.frz o1 (.tup [x, y1])) := upd_same
    generalize upd H p1 (.frz o1 (.tup [x, y1])) = H1 at s1 e1 ⊢
    refine ⟨_, rfl, av, _, 0, _, rfl, rfl, s1.seqT hy, atI_nat (j := 0) rfl, _, _, rfl, rfl, z3 (by omega), z3 (by show 3 ≤ 200; decide), fun l hl => ?_⟩
    have s3 := same_new hl (.lst [.str ")", .ref p1, .str ("right" ++ "(")])
    have s13 := s1.trans s3
    refine q l _ [.str ")", .ref p1, .str ("right" ++ "(")] [(1, ")"), (5 * n2, sa), (1, "right" ++ "(")] s13 (s1.free hl) upd_same (.cons (.inl ⟨rfl, rfl⟩) (.cons (.inr ⟨kb, u, n2, ?_, pk'.2, pd', ta, rfl⟩) (.cons (.inl ⟨rfl, rfl⟩) .nil))) ?_ ?_
    · exact .tup (SqP.of (s3 _ _ e1) ho1) (.cons (Dq.mono s13 _ _ hxs) (.cons (Dq.mono s13 _ _ q1) .nil))
    · show "right" ++ "(" ++ (sa ++ (")" ++ Str.empty)) = _
      rw [Str.append_empty, Str.append_assoc, Str.append_assoc, Str.append_assoc]
    · show 1 + (5 * n2 + (1 + 0)) + 1 ≤ _
      omega
end
end Toy
set_option Elab.async false
set_option linter.all false
set_option maxRecDepth 100000
set_option maxHeartbeats 4000000
namespace Toy
open PySem L2 PyProof.Rows
abbrev sTv : Stmt := top 54
theorem fuel_its {K : PySem.W.Frag} {bk : List (Str × PyData)} {b : Bool} {H : Hp} : ∀ {ws : List V} {st : List (Nat × Str)}, Paired (ItR K bk b H) ws st → st.length ≤ (st.map (·.1)).sum
  | _, _, .nil => Nat.le_refl _
  | _, _, .cons r t => by
    have := fuel_its t
    have := ItR.pos r
    rw [List.map_cons, List.sum_cons, List.length_cons]
    omega
section
variable {P : Program} {w : World} {K : PySem.W.Frag} {mg : Str → Option Value} {base : Heap} {m : Nat}
theorem scTv : FnScope ["table", "kind", "value", "told", "waiting", "coming"] ["table", "kind", "value"] (defScope sTv) := ⟨rfl, rfl, rfl, by decide +kernel, rfl, by decide +kernel, by decide +kernel⟩
theorem ok_textv {f gU gN : Addr} {fd dU dN : FuncData} (F : Fun K "text_of_value" "text_of_value" sTv f fd) (U : Nt mg) (UN : Gv P w K mg base 1 "unfolded" gU dU ["table", "kind"] (spUnf K)) (NX : Gv P w K mg base 2 "shown_next" gN dN ["kind", "value"] (spNx K)) : FnOk P w K mg base CX0 3 f fd ["table", "kind", "value"] (spTv K) := by
  refine F.ok scTv (fun vs H Q E h => ?_) (fun cdv A outer s H vs Q E hr h => ?_)
  · obtain ⟨t, u, v, bk, b, n, k, d, s, rfl, _⟩ := h
    rfl
  obtain ⟨t, u, v, bk, b, n, k, d, s, rfl, tb, few, BP, hu, hv, pk, pd, tx, nn, q⟩ := h
  have hr1 : Room 1 (A.deeper _) := hr.mono (by omega)
  have hr2 : Room 2 (A.deeper _) := hr
  refine ⟨_, (pss_cons (ps_set (i := 3) scTv.nd rfl (.inl rfl) (pe_lst pa_nil))
    (pss_cons (ps_set (i := 4) scTv.nd rfl (.inl rfl) (pe_lst (pa_cons (pe_tupN (pa_cons (pv 1) (pa_cons (pv 2) pa_nil))) pa_nil)))
    (pss_cons (ps_while PassesOwn.never (pt_truth (pv 4) (by intro _; rfl)) (pss_cons (ps_set (i := 5) scTv.nd rfl (.inl rfl) (pe_bm0 PySem.F.plainAttrs_list PySem.F.slot_list_pop PySem.F.type_list_pop mt_pop (pv 4)))
    (pss_one (ps_if (pt_cmpR op_eqTyD (pe_callTy call_tyD rfl U.type (by decide +kernel) (pa_cons (pv 5) pa_nil)) (pe_bltn (v := .ty "str") rfl U.str (by decide +kernel) rfl (by decide) (by decide)) (nomark _)) (pss_one (ps_expr (pe_bm PySem.F.plainAttrs_list PySem.F.slot_list_append PySem.F.type_list_append mt_append (pv 3) (pa_cons (pv 5) pa_nil)))) (pss_one (ps_expr (pe_bm PySem.F.plainAttrs_list PySem.F.slot_list_extend PySem.F.type_list_extend mt_extend (pv 4) (pa_cons (pe_call NX.ok hr2 rfl NX.m NX.k NX.b .nil pass0 (pa_cons (pe_call UN.ok hr1 rfl UN.m UN.k UN.b .nil pass0 (pa_cons (pv 0) (pa_cons (pe_ix ix_tup (pv 5) pe_int (fun _ _ => rfl)) pa_nil))) (pa_cons (pe_ix ix_tup (pv 5) pe_int (fun _ _ => rfl)) pa_nil))) pa_nil))))))))
    (pss_one (ps_ret (pe_join pe_str (pv 3))))))), ?_⟩
  have z3 : ∀ {k : Nat}, k ≤ 5005 → k ≤ sizeLine := fun h => Nat.le_trans h (by decide)
  have z4 : ∀ {k : Nat}, k ≤ 5005 → k < sizeLine := fun h => Nat.lt_of_le_of_lt h (by decide)
  have ltx := tx.len
  refine ⟨z3 (by show 0 ≤ 5005; decide), fun ta hta => ?_⟩
  have s1 := same_new hta (.lst [])
  have e1 : upd H ta (.lst []) ta = some (.lst []) := upd_same
  generalize upd H ta (.lst []) = H1 at s1 e1 ⊢
  refine ⟨_, rfl, _, rfl, z3 (by show 2 ≤ 5005; decide), fun t0 o0 ht0 ho0 => ⟨z3 (by show 1 ≤ 5005; decide), fun wa hwa => ?_⟩⟩
  have s2 := same_new ht0 (.frz o0 (.tup [u, v]))
  have s3 := same_new hwa (.lst [.ref t0])
  have s13 := s1.trans (s2.trans s3)
  have e3 : upd (upd H1 t0 (.frz o0 (.tup [u, v]))) wa (.lst [.ref t0]) ta = some (.lst []) := (s2.trans s3) _ _ e1
  have w3 : upd (upd H1 t0 (.frz o0 (.tup [u, v]))) wa (.lst [.ref t0]) wa = some (.lst [.ref t0]) := upd_same
  have p0 : ItR K bk b (upd (upd H1 t0 (.frz o0 (.tup [u, v]))) wa (.lst [.ref t0])) (.ref t0) (5 * n, s) := .inr ⟨k, d, n, .tup (SqP.of (s3 _ _ upd_same) ho0) (.cons (Dq.mono s13 _ _ hu) (.cons (Dq.mono s13 _ _ hv) .nil)), pk, pd, tx, rfl⟩
  have hwaH : H wa = none := (s1.trans s2).free hwa
  have taw : ta ≠ wa := fun z => by rw [← z, s2 _ _ e1] at hwa; cases hwa
  generalize upd (upd H1 t0 (.frz o0 (.tup [u, v]))) wa (.lst [.ref t0]) = H3 at s13 e3 w3 p0 ⊢
  dsimp only [gName, tSeq]
  refine while_ix (fun m σ H' => ∃ ts st ws c5, σ = [some (.ref t), some u, some v, some (.ref ta), some (.ref wa), c5] ∧ Same H H' ∧ H' wa = some (.lst ws) ∧ H' ta = some (.lst (ts.map V.str)) ∧ Paired (ItR K bk b H') ws.reverse st ∧ cat ts ++ cat (st.map (·.2)) = s ∧ (st.map (·.1)).sum = m ∧ ts.length + m ≤ 5 * n) (5 * n)
    ⟨[], [(5 * n, s)], [.ref t0], none, rfl, s13, w3, e3, .cons p0 .nil, (by show Str.empty ++ (s ++ Str.empty) = s; rw [Str.append_empty, Str.empty_append]), (by simp), by show 0 + 5 * n ≤ 5 * n; omega⟩ ?_ ?_
  · rintro m σ H' ⟨ts, st, ws, c5, rfl, sH, hw, ht, pr, ec, em, lm⟩
    rcases List.eq_nil_or_concat ws with rfl | ⟨w', y, rfl⟩
    · refine ⟨_, rfl, false, .inl ⟨[], SqL.of hw, rfl⟩, iteF ?_⟩
      cases pr
      have es : cat ts = s := by
        rw [← ec]
        exact (Str.append_empty _).symm
      have lt : (ts.map (·.length)).sum = s.length := by
        rw [← es]
        clear ec es ht lm
        induction ts with
        | nil => rfl
        | cons x r ih =>
          rw [List.map_cons, List.sum_cons, ih]
          exact (Str.length_append _ _).symm
      refine ⟨⟨_, rfl⟩, _, rfl, "", ta, ts, rfl, rfl, .inl (SqL.of ht), ?_, ?_⟩
      · rw [lt, show (("" : Str)).length = 0 from by decide +kernel, Nat.mul_zero, Nat.add_zero]
        exact Nat.le_trans ltx (Nat.le_trans (Nat.mul_le_mul_left 402 nn) (by decide))
      · rw [join_cat, es]
        exact q H' sH
    · rw [List.concat_eq_append] at hw pr
      rw [List.reverse_append, List.reverse_singleton, List.singleton_append] at pr
      obtain ⟨c, st', rfl, it, pr'⟩ := paired_consL pr
      obtain ⟨c1, c2⟩ := c
      refine ⟨_, rfl, true, .inl ⟨_, SqL.of hw, by simp⟩, iteT ?_⟩
      refine ⟨_, rfl, .inl ⟨rfl, _, SqL.of hw⟩, wa, _, y, rfl, rfl, hw, by simp, ?_⟩
      have dl : (w' ++ [y]).dropLast = w' := by simp
      rw [dl]
      have ts1 := TS.lst hw w'
      have sH1 : Same H (upd H' wa (.lst w')) := fun b o e => by rw [upd_ne (ne_of_none e hwaH)]; exact sH _ _ e
      have hw1 : upd H' wa (.lst w') wa = some (.lst w') := upd_same
      have ht1 : upd H' wa (.lst w') ta = some (.lst (ts.map V.str)) := by rw [upd_ne taw]; exact ht
      have pr1 := its_ts ts1 pr'
      have it1 := ItR.ts ts1 it
      have ip := ItR.pos it
      generalize upd H' wa (.lst w') = H4 at sH1 hw1 ht1 pr1 it1 ⊢
      have ec' : cat ts ++ (c2 ++ cat (st'.map (·.2))) = s := ec
      have em' : c1 + (st'.map (·.1)).sum = m := em
      have lts : (ts.map V.str).length = ts.length := List.length_map ..
      rcases it1 with ⟨ey, ew⟩ | ⟨k1, d1, n1, D1, pk1, pd1, tx1, ew⟩
      · have ey : y = .str c2 := ey
        subst ey
        have ew : c1 = 1 := ew
        subst ew
        refine ⟨_, rfl, _, .str c2, rfl, .str _, _, "str", rfl, rfl, TypeEq.meta_str, _, rfl, iteY (by show decide (("str" : String) = "str") = true; decide +kernel) ?_⟩
        refine ⟨_, rfl, .inl ⟨rfl, _, SqL.of ht1⟩, _, rfl, ta, _, _, rfl, rfl, ht1, z4 (by omega), ?_⟩
        have ts2 := TS.lst ht1 (ts.map V.str ++ [.str c2])
        refine ⟨(st'.map (·.1)).sum, by omega, ts ++ [c2], st', w', _, rfl, fun b o e => by rw [upd_ne (ne_of_none e hta)]; exact sH1 _ _ e, by rw [upd_ne taw.symm]; exact hw1, by rw [upd_same, List.map_append]; rfl, its_ts ts2 pr1, ?_, rfl, by rw [List.length_append, List.length_singleton]; omega⟩
        rw [cat_app]
        show cat ts ++ (c2 ++ Str.empty) ++ _ = s
        rw [Str.append_empty, Str.append_assoc]
        exact ec'
      · have ew : c1 = 5 * n1 := ew
        have tx1 : Tx bk b n1 k1 d1 c2 := tx1
        obtain ⟨hm, k2, n2, hp, br, tx2, le2⟩ := tx_bare tx1
        have D0 := D1
        obtain ⟨p, xs, rfl, hxs, hA⟩ := dq_tuple D1
        obtain ⟨a1, rs, rfl, Da, hA⟩ := dqAll_cons hA
        obtain ⟨b1, rs, rfl, Db, hA⟩ := dqAll_cons hA
        obtain rfl := dqAll_nil hA
        refine ⟨_, rfl, _, _, rfl, D0, _, "str", rfl, rfl, TypeEq.meta_str, _, rfl, iteN (by show decide (("tuple" : String) = "str") = false; decide +kernel) ?_⟩
        have pk2 := hp.pl BP pk1
        refine ⟨_, rfl, .inl ⟨rfl, _, SqL.of hw1⟩, _, rfl, _, rfl, p, _, 0, _, rfl, rfl, hxs, atI_nat (j := 0) rfl, t, a1, bk, hm, k1, k2, rfl, tb.on sH1, few, Da, hp, fun u2 hu2 => ?_⟩
        refine ⟨_, rfl, p, _, 1, _, rfl, rfl, hxs, atI_nat (j := 1) rfl, u2, b1, bk, b, n2, k2, d1, c2, rfl, hu2, Db, pk2, pd1, br, tx2, by omega, fun l H5 ws5 its5 s5 hl5 hl5' pr5 ecat esum => ?_⟩
        have hw5 := s5 _ _ hw1
        have ht5 := s5 _ _ ht1
        have pr6 := its_ts (TS.same s5) pr1
        have l3 := paired_length pr6
        have l4 := paired_length pr5
        have l5 := fuel_its pr6
        have l6 := fuel_its pr5
        rw [List.length_reverse] at l3
        refine ⟨wa, l, w', ws5, rfl, rfl, hw5, hl5', z3 (by omega), ?_⟩
        have ts6 := TS.lst hw5 (w' ++ ws5)
        refine ⟨((its5.reverse ++ st').map (·.1)).sum, ?_, ts, its5.reverse ++ st', w' ++ ws5, _, rfl, (fun x o e => by rw [upd_ne (ne_of_none e hwaH)]; exact s5 _ _ (sH1 _ _ e)), upd_same, (by rw [upd_ne taw]; exact ht5), ?_, ?_, rfl, ?_⟩
        · rw [List.map_append, sum_app, List.map_reverse, sum_rev]
          omega
        · rw [List.reverse_append]
          exact paired_app (paired_rev (its_ts ts6 pr5)) (its_ts ts6 pr6)
        · rw [List.map_append, cat_app, ecat]
          exact ec'
        · rw [List.map_append, sum_app, List.map_reverse, sum_rev]
          omega
  · intro σ H' Q1 Q2 hq hc
    obtain ⟨x, ex, k, tr, q1⟩ := hc
    exact ⟨x, ex, k, tr, hq _ _ q1⟩
end
end Toy
set_option Elab.async false
set_option linter.all false
set_option maxRecDepth 100000
set_option maxHeartbeats 4000000
namespace Toy
open PySem L2 PyProof.Rows
abbrev sSv : Stmt := top 51
abbrev sSs : Stmt := top 52
abbrev sChS : Stmt := top 47
/-! ### values and shapes shown -/
structure ValL (L : PyData → Prop) (d e x : PyData) (n : Nat) : Prop where
  bk : BkK (bkOf d)
  few : (bkOf d).length ≤ 1000
  k : kOk e
  pl : plB x = true
  val : Val L (bkOf d) n e x
  nn : n ≤ 1000
theorem ValL.c {L : PyData → Prop} {d e x : PyData} {n : Nat} (h : ValL L d e x n) : plC (e, x) := ⟨st_pl _ h.k.1, h.pl⟩
def spCvL (K : PySem.W.Frag) (L : PyData → Prop) : Sp := fun vs H Q _ => ∃ (t : Addr) (u v : V) (d e x : PyData) (n : Nat), vs = [.ref t, u, v] ∧ Tab K H t (bkOf d) ∧ Dq K H u e ∧ Dq K H v x ∧ ValL L d e x n ∧ ∀ H', Same H H' → Q .non H'
def spCvN (K : PySem.W.Frag) : Sp := spCvL K numOk
def spCvS (K : PySem.W.Frag) : Sp := spCvL K emptyD
def spSh (K : PySem.W.Frag) (L : PyData → Prop) (b : Bool) : Sp := fun vs H Q _ => ∃ (v u y : V) (d e x : PyData) (n : Nat) (t : Str), vs = [v, u, y] ∧ BookAt K 120 H v d ∧ KindAt K 120 H u d e ∧ Dq K H y x ∧ ValL L d e x n ∧ Tx (bkOf d) b n e x t ∧ ∀ H', Same H H' → Q (.str t) H'
section
variable {P : Program} {w : World} {K : PySem.W.Frag} {mg : Str → Option Value} {base : Heap} {m : Nat}
theorem scChS : FnScope ["table", "kind", "shape"] ["table", "kind", "shape"] (defScope sChS) := ⟨rfl, rfl, rfl, by decide +kernel, rfl, by decide +kernel, by decide +kernel⟩
theorem scSv : FnScope ["book", "kind", "value", "table"] ["book", "kind", "value"] (defScope sSv) := ⟨rfl, rfl, rfl, by decide +kernel, rfl, by decide +kernel, by decide +kernel⟩
theorem scSs : FnScope ["book", "kind", "shape", "table"] ["book", "kind", "shape"] (defScope sSs) := ⟨rfl, rfl, rfl, by decide +kernel, rfl, by decide +kernel, by decide +kernel⟩
theorem ok_checkvalueN {f gH gL : Addr} {fd dH : FuncData} (F : Fun K "check_value" "check_value" sCv f fd) (LM : mg "is_whole_number" = some (.ref gL)) (HK : Gv P w K mg base 3 "has_kind" gH dH ["table", "kind", "value", "is_thing"] (spHk K numOk gL)) : FnOk P w K mg base CX0 4 f fd ["table", "kind", "value"] (spCvN K) := by
  refine F.ok scCv (fun vs H Q E h => ?_) (fun cdv A outer s H vs Q E hr h => ?_)
  · obtain ⟨t, u, v, d, e, x, n, rfl, _⟩ := h
    rfl
  obtain ⟨t, u, v, d, e, x, n, rfl, tb, hu, hv, ok, q⟩ := h
  refine ⟨_, (pss_one (ps_if (pt_not (pt_val (pe_call HK.ok hr rfl HK.m HK.k HK.b .nil pass0 (pa_cons (pv 0) (pa_cons (pv 1) (pa_cons (pv 2) (pa_cons (pe_glob (v := .ref gL) rfl LM rfl) pa_nil))))))) (pss_one ps_never) pss_nil)), ?_⟩
  refine ⟨_, rfl, _, rfl, _, rfl, t, u, v, bkOf d, n, e, x, rfl, tb, ok.few, ok.bk.p, hu, hv, ok.c, ok.val, ok.nn, fun H1 s1 => ?_⟩
  exact ⟨_, rfl, iteF (q H1 s1)⟩
theorem ok_checkshape {f gH gL : Addr} {fd dH : FuncData} (F : Fun K "check_shape" "check_shape" sChS f fd) (LM : mg "is_empty" = some (.ref gL)) (HK : Gv P w K mg base 3 "has_kind" gH dH ["table", "kind", "value", "is_thing"] (spHk K emptyD gL)) : FnOk P w K mg base CX0 4 f fd ["table", "kind", "shape"] (spCvS K) := by
  refine F.ok scChS (fun vs H Q E h => ?_) (fun cdv A outer s H vs Q E hr h => ?_)
  · obtain ⟨t, u, v, d, e, x, n, rfl, _⟩ := h
    rfl
  obtain ⟨t, u, v, d, e, x, n, rfl, tb, hu, hv, ok, q⟩ := h
  refine ⟨_, (pss_one (ps_if (pt_not (pt_val (pe_call HK.ok hr rfl HK.m HK.k HK.b .nil pass0 (pa_cons (pv 0) (pa_cons (pv 1) (pa_cons (pv 2) (pa_cons (pe_glob (v := .ref gL) rfl LM rfl) pa_nil))))))) (pss_one ps_never) pss_nil)), ?_⟩
  refine ⟨_, rfl, _, rfl, _, rfl, t, u, v, bkOf d, n, e, x, rfl, tb, ok.few, ok.bk.p, hu, hv, ok.c, ok.val, ok.nn, fun H1 s1 => ?_⟩
  exact ⟨_, rfl, iteF (q H1 s1)⟩
theorem ok_showvalue {f gT gC gX : Addr} {fd dT dC dX : FuncData} (F : Fun K "show_value" "show_value" sSv f fd) (TF : Gv P w K mg base 65 "table_for" gT dT ["book", "kind"] (spTf K 120)) (CV : Gv P w K mg base 4 "check_value" gC dC ["table", "kind", "value"] (spCvN K)) (TV : Gv P w K mg base 3 "text_of_value" gX dX ["table", "kind", "value"] (spTv K)) : FnOk P w K mg base CX0 66 f fd ["book", "kind", "value"] (spSh K numOk false) := by
  refine F.ok scSv (fun vs H Q E h => ?_) (fun cdv A outer s H vs Q E hr h => ?_)
  · obtain ⟨v, u, y, d, e, x, n, t, rfl, _⟩ := h
    rfl
  obtain ⟨v, u, y, d, e, x, n, t, rfl, hb, hk, hy, vo, tx, q⟩ := h
  have hr65 : Room 65 (A.deeper _) := hr
  have hr4 : Room 4 (A.deeper _) := hr.mono (by omega)
  have hr3 : Room 3 (A.deeper _) := hr.mono (by omega)
  refine ⟨_, (pss_cons (ps_set (i := 3) scSv.nd rfl (.inl rfl) (pe_call TF.ok hr65 rfl TF.m TF.k TF.b .nil pass0 (pa_cons (pv 0) (pa_cons (pv 1) pa_nil))))
    (pss_cons (ps_expr (pe_call CV.ok hr4 rfl CV.m CV.k CV.b .nil pass0 (pa_cons (pv 3) (pa_cons (pv 1) (pa_cons (pv 2) pa_nil)))))
    (pss_one (ps_ret (pe_call TV.ok hr3 rfl TV.m TV.k TV.b .nil pass0 (pa_cons (pv 3) (pa_cons (pv 1) (pa_cons (pv 2) pa_nil)))))))), ?_⟩
  refine ⟨_, rfl, _, rfl, v, u, d, e, rfl, hb, hk, fun t1 H1 s1 tb => ?_⟩
  refine ⟨_, rfl, _, rfl, _, rfl, t1, u, y, d, e, x, n, rfl, tb, Dq.mono s1 _ _ hk.1, Dq.mono s1 _ _ hy, vo, fun H2 s2 => ?_⟩
  have s12 := s1.trans s2
  exact ⟨_, rfl, _, rfl, _, rfl, t1, u, y, bkOf d, false, n, e, x, t, rfl, tb.on s2, vo.few, vo.bk.p, Dq.mono s12 _ _ hk.1, Dq.mono s12 _ _ hy, st_pl _ vo.k.1, vo.pl, tx, vo.nn, fun H3 s3 => q H3 (s12.trans s3)⟩
theorem ok_showshape {f gT gC gX : Addr} {fd dT dC dX : FuncData} (F : Fun K "show_shape" "show_shape" sSs f fd) (TF : Gv P w K mg base 65 "table_for" gT dT ["book", "kind"] (spTf K 120)) (CS : Gv P w K mg base 4 "check_shape" gC dC ["table", "kind", "shape"] (spCvS K)) (TV : Gv P w K mg base 3 "text_of_value" gX dX ["table", "kind", "value"] (spTv K)) : FnOk P w K mg base CX0 66 f fd ["book", "kind", "shape"] (spSh K emptyD true) := by
  refine F.ok scSs (fun vs H Q E h => ?_) (fun cdv A outer s H vs Q E hr h => ?_)
  · obtain ⟨v, u, y, d, e, x, n, t, rfl, _⟩ := h
    rfl
  obtain ⟨v, u, y, d, e, x, n, t, rfl, hb, hk, hy, vo, tx, q⟩ := h
  have hr65 : Room 65 (A.deeper _) := hr
  have hr4 : Room 4 (A.deeper _) := hr.mono (by omega)
  have hr3 : Room 3 (A.deeper _) := hr.mono (by omega)
  refine ⟨_, (pss_cons (ps_set (i := 3) scSs.nd rfl (.inl rfl) (pe_call TF.ok hr65 rfl TF.m TF.k TF.b .nil pass0 (pa_cons (pv 0) (pa_cons (pv 1) pa_nil))))
    (pss_cons (ps_expr (pe_call CS.ok hr4 rfl CS.m CS.k CS.b .nil pass0 (pa_cons (pv 3) (pa_cons (pv 1) (pa_cons (pv 2) pa_nil)))))
    (pss_one (ps_ret (pe_call TV.ok hr3 rfl TV.m TV.k TV.b .nil pass0 (pa_cons (pv 3) (pa_cons (pv 1) (pa_cons (pv 2) pa_nil)))))))), ?_⟩
  refine ⟨_, rfl, _, rfl, v, u, d, e, rfl, hb, hk, fun t1 H1 s1 tb => ?_⟩
  refine ⟨_, rfl, _, rfl, _, rfl, t1, u, y, d, e, x, n, rfl, tb, Dq.mono s1 _ _ hk.1, Dq.mono s1 _ _ hy, vo, fun H2 s2 => ?_⟩
  have s12 := s1.trans s2
  exact ⟨_, rfl, _, rfl, _, rfl, t1, u, y, bkOf d, true, n, e, x, t, rfl, tb.on s2, vo.few, vo.bk.p, Dq.mono s12 _ _ hk.1, Dq.mono s12 _ _ hy, st_pl _ vo.k.1, vo.pl, tx, vo.nn, fun H3 s3 => q H3 (s12.trans s3)⟩
end
end Toy
set_option Elab.async false
set_option linter.all false
set_option maxRecDepth 100000
set_option maxHeartbeats 4000000
namespace Toy
open PySem L2 PyProof.Rows
abbrev sTk : Stmt := top 53
/-! ### kinds and books shown -/
def isE : PyData → Bool
  | .tuple (.str w :: _) => wE w
  | _ => false
def kx : Nat → PyData → Str
  | n + 1, .tuple [.str w, a, b] => if wE w = true then kx n a ++ " | " ++ (if isE b = true then "(" ++ kx n b ++ ")" else kx n b) else "(" ++ kx n a ++ ", " ++ kx n b ++ ")"
  | _, .tuple [.str _, .str x] => x
  | _, .tuple [.str w] => w
  | _, _ => ""
theorem kx_one {n : Nat} {w : Str} : kx n (.tuple [.str w]) = w := by cases n <;> rfl
theorem kx_nm {n : Nat} {w x : Str} : kx n (.tuple [.str w, .str x]) = x := by cases n <;> rfl
theorem kx_two {n : Nat} {w : Str} {a b : PyData} : kx (n + 1) (.tuple [.str w, a, b]) = if wE w = true then kx n a ++ " | " ++ (if isE b = true then "(" ++ kx n b ++ ")" else kx n b) else "(" ++ kx n a ++ ", " ++ kx n b ++ ")" := rfl
theorem len1 : (("(" : Str)).length = 1 ∧ ((")" : Str)).length = 1 ∧ ((", " : Str)).length = 2 ∧ ((" | " : Str)).length = 3 ∧ ((" = " : Str)).length = 3 ∧ ((";" : Str)).length = 1 := by decide +kernel
theorem kx_len : ∀ {n : Nat} {d : PyData}, fB n d = true → (∀ x ∈ (ms n d).2.2, x.length ≤ 26) → (kx n d).length ≤ 32 * (ms n d).2.1 := by
  intro n
  induction n with
  | zero => intro d f; cases f
  | succ n ih =>
    intro d f nl
    rcases fB_cases f with ⟨w, rfl, hw3⟩ | ⟨w, x, rfl, _, _⟩ | ⟨m, w, a, b, en, rfl, hw2, ha, hb⟩
    · rw [kx_one]
      have : (ms (n + 1) (.tuple [.str w])).2.1 = 1 := rfl
      rw [this]
      rcases w_three hw3 with rfl | rfl | rfl <;> decide +kernel
    · rw [kx_nm]
      have : (ms (n + 1) (.tuple [.str w, .str x])).2.1 = 1 := rfl
      rw [this]
      have := nl x (show x ∈ [x] from List.mem_singleton.mpr rfl)
      omega
    · have en' : n = m := by omega
      subst en'
      rw [ms_row] at nl ⊢
      have ia := ih ha fun x m => nl x (List.mem_append.mpr (.inl m))
      have ib := ih hb fun x m => nl x (List.mem_append.mpr (.inr m))
      obtain ⟨a1, a2, a3, a4, _⟩ := len1
      rw [kx_two, two_parts]
      split
      · rw [Str.length_append, Str.length_append]
        split
        · rw [Str.length_append, Str.length_append]
          omega
        · omega
      · rw [Str.length_append, Str.length_append, Str.length_append, Str.length_append]
        omega
/-- a kind whose text is not too long -/
structure FmT (n : Nat) (e : PyData) : Prop where
  f : fB n e = true
  m : (ms n e).2.1 ≤ 1200
  nl : ∀ x ∈ (ms n e).2.2, x.length ≤ 26
theorem FmT.len {n : Nat} {e : PyData} (h : FmT n e) : (kx n e).length ≤ 38400 := by
  have := kx_len h.f h.nl
  have := h.m
  omega
theorem FmA.t {ds : List PyData} {e : PyData} (h : FmA ds e) : FmT 22 e := ⟨h.f, h.m, h.nl⟩
theorem FmT.two {n : Nat} {w : Str} {a b : PyData} (h : FmT (n + 1) (.tuple [.str w, a, b])) : w2 w = true ∧ FmT n a ∧ FmT n b := by
  have f := h.f
  rw [fB_two, Bool.and_eq_true, Bool.and_eq_true] at f
  have m := h.m
  have nl := h.nl
  rw [ms_row] at m nl
  have := two_parts (ms n a) (ms n b)
  exact ⟨f.1, ⟨f.2.1, by omega, fun x mx => nl x (List.mem_append.mpr (.inl mx))⟩, ⟨f.2.2, by omega, fun x mx => nl x (List.mem_append.mpr (.inr mx))⟩⟩
theorem isE_of {n : Nat} {b : PyData} (f : fB n b = true) : ∃ (u : Str) (r : List PyData), b = .tuple (.str u :: r) ∧ isE b = decide (V.str u = V.str "either") := by
  rcases fB_cases f with ⟨w, rfl, _⟩ | ⟨w, x, rfl, _, _⟩ | ⟨m, w, a, b, en, rfl, _, ha, hb⟩
  · exact ⟨w, _, rfl, rfl⟩
  · exact ⟨w, _, rfl, rfl⟩
  · exact ⟨w, _, rfl, rfl⟩
def spTk (K : PySem.W.Frag) (n : Nat) : Sp := fun vs H Q _ => ∃ (v : V) (e : PyData), vs = [v] ∧ Dq K H v e ∧ FmT n e ∧ ∀ H', Same H H' → Q (.str (kx n e)) H'
abbrev lPe : List Str := ["pair", "either"]
section
variable {P : Program} {w : World} {K : PySem.W.Frag} {mg : Str → Option Value} {base : Heap}
theorem scTk : FnScope ["kind", "word"] ["kind"] (defScope sTk) := ⟨rfl, rfl, rfl, by decide +kernel, rfl, by decide +kernel, by decide +kernel⟩
theorem ok_ktext {f : Addr} {fd : FuncData} {n k : Nat} (F : Fun K "text_of_kind" "text_of_kind" sTk f fd) (R : Gv P w K mg base k "text_of_kind" f fd ["kind"] (spTk K n)) : FnOk P w K mg base CX0 (k + 1) f fd ["kind"] (spTk K (n + 1)) := by
  refine F.ok scTk (fun vs H Q E h => ?_) (fun cdv A outer s H vs Q E hr h => ?_)
  · obtain ⟨v, e, rfl, _⟩ := h
    rfl
  obtain ⟨v, e, rfl, hv, fm, q⟩ := h
  refine ⟨_, (pss_cons (ps_set (i := 1) scTk.nd rfl (.inl rfl) (pe_ix ix_tup (pv 0) pe_int (fun _ _ => rfl)))
    (pss_cons (ps_if (pt_cmpR op_eq (pv 1) pe_str (nomark _)) (pss_one (ps_ret (pe_ix ix_tup (pv 0) pe_int (fun _ _ => rfl)))) pss_nil)
    (pss_cons (ps_if (pt_cmpR op_eq (pv 1) pe_str (nomark _)) (pss_one (ps_ret (pe_joined (PJ.cons pe_str (PJ.cons (pe_fmt (pe_call R.ok hr rfl R.m R.k R.b .nil pass0 (pa_cons (pe_ix ix_tup (pv 0) pe_int (fun _ _ => rfl)) pa_nil))) (PJ.cons pe_str (PJ.cons (pe_fmt (pe_call R.ok hr rfl R.m R.k R.b .nil pass0 (pa_cons (pe_ix ix_tup (pv 0) pe_int (fun _ _ => rfl)) pa_nil))) (PJ.cons pe_str PJ.nil)))))))) pss_nil)
    (pss_cons (ps_if (PW.pt (pw_and (pt_cmpR op_eq (pv 1) pe_str (nomark _)) (pw_and1 (pt_cmpR op_eq (pe_ix ix_tup (pe_ix ix_tup (pv 0) pe_int (fun _ _ => rfl)) pe_int (fun _ _ => rfl)) pe_str (nomark _))))) (pss_one (ps_ret (pe_joined (PJ.cons (pe_fmt (pe_call R.ok hr rfl R.m R.k R.b .nil pass0 (pa_cons (pe_ix ix_tup (pv 0) pe_int (fun _ _ => rfl)) pa_nil))) (PJ.cons pe_str (PJ.cons (pe_fmt (pe_call R.ok hr rfl R.m R.k R.b .nil pass0 (pa_cons (pe_ix ix_tup (pv 0) pe_int (fun _ _ => rfl)) pa_nil))) (PJ.cons pe_str PJ.nil))))))) pss_nil)
    (pss_cons (ps_if (pt_cmpR op_eq (pv 1) pe_str (nomark _)) (pss_one (ps_ret (pe_joined (PJ.cons (pe_fmt (pe_call R.ok hr rfl R.m R.k R.b .nil pass0 (pa_cons (pe_ix ix_tup (pv 0) pe_int (fun _ _ => rfl)) pa_nil))) (PJ.cons pe_str (PJ.cons (pe_fmt (pe_call R.ok hr rfl R.m R.k R.b .nil pass0 (pa_cons (pe_ix ix_tup (pv 0) pe_int (fun _ _ => rfl)) pa_nil))) PJ.nil)))))) pss_nil)
    (pss_one (ps_ret (pv 1)))))))), ?_⟩
  have z3 : ∀ {k : Nat}, k ≤ 200000 → k ≤ sizeLine := fun h => Nat.le_trans h (by decide)
  obtain ⟨a1, a2, a3, a4, _⟩ := len1
  rcases fB_cases fm.f with ⟨w, rfl, hw3⟩ | ⟨w, x, rfl, hw1, _⟩ | ⟨m, w, a, b, en, rfl, hw2, ha, hb⟩
  · obtain ⟨ad, xs, rfl, hx, hA⟩ := dq_tuple hv
    obtain ⟨x0, rs, rfl, g0, hA⟩ := dqAll_cons hA
    cases g0
    have n1 : decide (V.str w = V.str "name") = false ∧ decide (V.str w = V.str "pair") = false ∧ decide (V.str w = V.str "either") = false := by rcases w_three hw3 with rfl | rfl | rfl <;> decide +kernel
    rw [kx_one] at q
    refine ⟨_, rfl, ad, _, 0, _, rfl, rfl, hx, atI_nat (j := 0) rfl, ?_⟩
    refine ⟨_, rfl, rfl, _, rfl, iteN n1.1 ?_⟩
    refine ⟨_, rfl, rfl, _, rfl, iteN n1.2.1 ?_⟩
    refine ⟨_, rfl, rfl, _, rfl, iteN n1.2.2 ?_⟩
    refine iteN rfl ?_
    refine ⟨_, rfl, rfl, _, rfl, iteN n1.2.2 ?_⟩
    exact ⟨_, rfl, q _ (Same.refl _)⟩
  · have hw' := w_one hw1
    injection hw' with hw'
    subst hw'
    obtain ⟨ad, xs, rfl, hx, hA⟩ := dq_tuple hv
    obtain ⟨x0, rs, rfl, g0, hA⟩ := dqAll_cons hA
    obtain ⟨x1, rs, rfl, g1, hA⟩ := dqAll_cons hA
    cases g0
    cases g1
    rw [kx_nm] at q
    refine ⟨_, rfl, ad, _, 0, _, rfl, rfl, hx, atI_nat (j := 0) rfl, ?_⟩
    refine ⟨_, rfl, rfl, _, rfl, iteY (by decide +kernel) ?_⟩
    exact ⟨_, rfl, ad, _, 1, _, rfl, rfl, hx, atI_nat (j := 1) rfl, q _ (Same.refl _)⟩
  · have en' : n = m := by omega
    subst en'
    obtain ⟨_, fa, fb⟩ := fm.two
    have la := fa.len
    have lb := fb.len
    obtain ⟨ad, xs, rfl, hx, hA⟩ := dq_tuple hv
    obtain ⟨x0, rs, rfl, g0, hA⟩ := dqAll_cons hA
    obtain ⟨x1, rs, rfl, g1, hA⟩ := dqAll_cons hA
    obtain ⟨x2, rs, rfl, g2, hA⟩ := dqAll_cons hA
    cases g0
    have no1 : decide (V.str w = V.str "name") = false := by rcases w_two hw2 with z | z <;> rw [z] <;> decide +kernel
    rw [kx_two] at q
    refine ⟨_, rfl, ad, _, 0, _, rfl, rfl, hx, atI_nat (j := 0) rfl, ?_⟩
    refine ⟨_, rfl, rfl, _, rfl, iteN no1 ?_⟩
    generalize hsa : kx n a = sa at q la
    generalize hsb : kx n b = sb at q lb
    rcases w_two hw2 with y | y
    · injection y with y
      subst y
      rw [show wE "pair" = false by decide +kernel, if_neg Bool.false_ne_true] at q
      refine ⟨_, rfl, rfl, _, rfl, iteY (by decide +kernel) ?_⟩
      refine ⟨"(", rfl, z3 (by rw [Str.length_append, a1]; decide), ?_⟩
      rw [Str.empty_append]
      refine ⟨_, rfl, ad, _, 1, _, rfl, rfl, hx, atI_nat (j := 1) rfl, x1, a, rfl, g1, fa, fun H1 s1 => .inl ⟨_, rfl, by rw [hsa]; exact z3 (by omega), sa, by rw [hsa], z3 (by rw [Str.length_append]; omega), ", ", rfl, z3 (by rw [Str.length_append, Str.length_append]; omega), ?_⟩⟩
      refine ⟨_, rfl, ad, _, 2, _, rfl, rfl, s1.seqT hx, atI_nat (j := 2) rfl, x2, b, rfl, Dq.mono s1 _ _ g2, fb, fun H2 s2 => .inl ⟨_, rfl, by rw [hsb]; exact z3 (by omega), sb, by rw [hsb], z3 (by rw [Str.length_append, Str.length_append, Str.length_append]; omega), ")", rfl, z3 (by rw [Str.length_append, Str.length_append, Str.length_append, Str.length_append]; omega), ?_⟩⟩
      exact q _ (s1.trans s2)
    · injection y with y
      subst y
      rw [show wE "either" = true by decide +kernel, if_pos rfl] at q
      refine ⟨_, rfl, rfl, _, rfl, iteN (by decide +kernel) ?_⟩
      obtain ⟨ub, rb, eb, ib⟩ := isE_of hb
      have g2' := g2
      rw [eb] at g2'
      obtain ⟨a2', ys, rfl, hy, hB⟩ := dq_tuple g2'
      obtain ⟨y0, rs', rfl, q0, hB⟩ := dqAll_cons hB
      cases q0
      refine ⟨_, rfl, rfl, _, rfl, iteY (by decide +kernel) ?_⟩
      refine ⟨_, rfl, ad, _, 2, _, rfl, rfl, hx, atI_nat (j := 2) rfl, a2', _, 0, _, rfl, rfl, hy, atI_nat (j := 0) rfl, rfl, _, rfl, ?_⟩
      rw [ib] at q
      refine ite2 (fun c => ?_) (fun c => ?_)
      · rw [if_pos c] at q
        refine ⟨_, rfl, ad, _, 1, _, rfl, rfl, hx, atI_nat (j := 1) rfl, x1, a, rfl, g1, fa, fun H1 s1 => .inl ⟨_, rfl, by rw [hsa]; exact z3 (by omega), sa, by rw [hsa], ?_, ?_⟩⟩
        · rw [Str.empty_append]
          exact z3 (by omega)
        rw [Str.empty_append]
        refine ⟨" | (", rfl, z3 (by rw [Str.length_append, show ((" | (" : Str)).length = 4 by decide +kernel]; omega), ?_⟩
        refine ⟨_, rfl, ad, _, 2, _, rfl, rfl, s1.seqT hx, atI_nat (j := 2) rfl, _, b, rfl, Dq.mono s1 _ _ g2, fb, fun H2 s2 => .inl ⟨_, rfl, by rw [hsb]; exact z3 (by omega), sb, by rw [hsb], z3 (by rw [Str.length_append, Str.length_append, show ((" | (" : Str)).length = 4 by decide +kernel]; omega), ")", rfl, z3 (by rw [Str.length_append, Str.length_append, Str.length_append, show ((" | (" : Str)).length = 4 by decide +kernel]; omega), ?_⟩⟩
        have e : sa ++ " | (" ++ sb ++ ")" = sa ++ " | " ++ ("(" ++ sb ++ ")") := by
          rw [show (" | (" : Str) = " | " ++ "(" by decide +kernel]
          simp only [Str.append_assoc]
        show Q (.str (sa ++ " | (" ++ sb ++ ")")) H2
        rw [e]
        exact q _ (s1.trans s2)
      · rw [if_neg c] at q
        refine ⟨_, rfl, rfl, _, rfl, iteY (by decide +kernel) ?_⟩
        refine ⟨_, rfl, ad, _, 1, _, rfl, rfl, hx, atI_nat (j := 1) rfl, x1, a, rfl, g1, fa, fun H1 s1 => .inl ⟨_, rfl, by rw [hsa]; exact z3 (by omega), sa, by rw [hsa], ?_, ?_⟩⟩
        · rw [Str.empty_append]
          exact z3 (by omega)
        rw [Str.empty_append]
        refine ⟨" | ", rfl, z3 (by rw [Str.length_append]; omega), ?_⟩
        refine ⟨_, rfl, ad, _, 2, _, rfl, rfl, s1.seqT hx, atI_nat (j := 2) rfl, _, b, rfl, Dq.mono s1 _ _ g2, fb, fun H2 s2 => .inl ⟨_, rfl, by rw [hsb]; exact z3 (by omega), sb, by rw [hsb], z3 (by rw [Str.length_append, Str.length_append]; omega), ?_⟩⟩
        exact q _ (s1.trans s2)
end
end Toy
set_option Elab.async false
set_option linter.all false
set_option maxRecDepth 100000
set_option maxHeartbeats 4000000
namespace Toy
open PySem L2 PyProof.Rows
abbrev sLk : Stmt := top 77
abbrev sSk : Stmt := top 49
abbrev sSb : Stmt := top 50
abbrev sLb : Stmt := top 78
def rowX (r : PyData) : Str := rowN r ++ " = " ++ kx 22 (rowK r) ++ ";"
def bx (ds : List PyData) : Str := Txt.join "
" (ds.map rowX)
/-- rows that may be shown -/
def RowsT (ds : List PyData) : Prop := ∀ r ∈ ds, ∃ y k, r = .tuple [.str y, k] ∧ y.length ≤ 60 ∧ FmT 22 k
def spKf (K : PySem.W.Frag) : Sp := fun vs H Q _ => ∃ (v : V) (ds : List PyData) (e : PyData), vs = [v] ∧ Dq K H v e ∧ FmA ds e ∧ ∀ H', Same H H' → Q (.str (kx 22 e)) H'
def spBs (K : PySem.W.Frag) : Sp := fun vs H Q _ => ∃ (v : V) (ds : List PyData), vs = [v] ∧ BookAt K 120 H v (.tuple ds) ∧ RowsT ds ∧ ds.length ≤ 100 ∧ ∀ H', Same H H' → Q (.str (bx ds)) H'
def spBx (K : PySem.W.Frag) : Sp := fun vs H Q _ => ∃ (v : V) (ds : List PyData), vs = [v] ∧ Dq K H v (.tuple ds) ∧ RowsT ds ∧ ds.length ≤ 100 ∧ ∀ H', Same H H' → Q (.str (bx ds)) H'
def tBk1 (K : PySem.W.Frag) : TE := fun σ H Q => tJs [tFmt (tVar 1), tC (.str " = "), tFmt (tCall (spTk K 22) [] E0 (tCons (tVar 2) tNil)), tC (.str ";")] Str.empty σ H fun out H1 => Q (.str out) H1
def rAddT : R2 := fun x y H Q => ∃ i j, x = .str i ∧ y = .str j ∧ i.length + j.length ≤ sizeLine ∧ Q (.str (i ++ j)) H
def tBk2 (K : PySem.W.Frag) : TE := tOp rAddT (tOp rAddT (tOp rAddT (tVar 1) (tC (.str " = "))) (tCall (spTk K 22) [] E0 (tCons (tVar 2) tNil))) (tC (.str ";"))
theorem rowX_len {r : PyData} {y : Str} {k : PyData} (e : r = .tuple [.str y, k]) (l : y.length ≤ 60) (f : FmT 22 k) : (rowX r).length ≤ 38464 := by
  subst e
  obtain ⟨_, _, _, _, a5, a6⟩ := len1
  have := f.len
  show (y ++ " = " ++ kx 22 k ++ ";").length ≤ _
  rw [Str.length_append, Str.length_append, Str.length_append]
  omega
section
variable {P : Program} {w : World} {K : PySem.W.Frag} {mg : Str → Option Value} {base : Heap} {C : Addr}
theorem scLk : FnScope ["kind", "one", "two"] ["kind"] (defScope sLk) := ⟨rfl, rfl, rfl, by decide +kernel, rfl, by decide +kernel, by decide +kernel⟩
theorem scSk : FnScope ["kind"] ["kind"] (defScope sSk) := ⟨rfl, rfl, rfl, by decide +kernel, rfl, by decide +kernel, by decide +kernel⟩
theorem scSb : FnScope ["book", "name", "kind"] ["book"] (defScope sSb) := ⟨rfl, rfl, rfl, by decide +kernel, rfl, by decide +kernel, by decide +kernel⟩
theorem scLb : FnScope ["book", "name", "kind"] ["book"] (defScope sLb) := ⟨rfl, rfl, rfl, by decide +kernel, rfl, by decide +kernel, by decide +kernel⟩
theorem none_tk {f : Addr} {fd : FuncData} {k : Nat} : FnOk P w K mg base CX0 k f fd ["kind"] (spTk K 0) := ⟨fun _ _ _ _ ⟨_, _, _, _, h, _⟩ => (nomatch h.f), fun _ _ _ _ _ _ _ _ _ _ _ _ _ ⟨_, _, _, _, h, _⟩ => (nomatch h.f)⟩
theorem ktexts {f : Addr} {fd : FuncData} (F : Fun K "text_of_kind" "text_of_kind" sTk f fd) (bF : Binds K fd ["kind"] []) (mF : mg "text_of_kind" = some (.ref f)) : ∀ n : Nat, Gv P w K mg base n "text_of_kind" f fd ["kind"] (spTk K n)
  | 0 => ⟨none_tk, bF, F.kp, mF⟩
  | n + 1 => ⟨ok_ktext F (ktexts F bF mF n), bF, F.kp, mF⟩
theorem ok_lktext {f : Addr} {fd : FuncData} {n k : Nat} (F : Fun K "_law_kind_text" "_law_kind_text" sLk f fd) (R : Gv P w K mg base k "_law_kind_text" f fd ["kind"] (spTk K n)) : FnOk P w K mg base CX0 (k + 1) f fd ["kind"] (spTk K (n + 1)) := by
  refine F.ok scLk (fun vs H Q E h => ?_) (fun cdv A outer s H vs Q E hr h => ?_)
  · obtain ⟨v, e, rfl, _⟩ := h
    rfl
  obtain ⟨v, e, rfl, hv, fm, q⟩ := h
  refine ⟨_, (pss_cons (ps_if (pt_cmpR op_notIn_seq (pe_ix ix_tup (pv 0) pe_int (fun _ _ => rfl)) (pe_tup (pa_cons pe_str (pa_cons pe_str pa_nil))) (by rfl)) (pss_one (ps_ret (pe_ifExp (pt_cmpR op_eq (pe_ix ix_tup (pv 0) pe_int (fun _ _ => rfl)) pe_str (nomark _)) (pe_ix ix_tup (pv 0) pe_int (fun _ _ => rfl)) (pe_ix ix_tup (pv 0) pe_int (fun _ _ => rfl))))) pss_nil)
    (pss_cons (ps_par (i := 1) (j := 2) rfl scLk.nd rfl rfl (by decide) rfl rfl (pa_cons (pe_call R.ok hr rfl R.m R.k R.b .nil pass0 (pa_cons (pe_ix ix_tup (pv 0) pe_int (fun _ _ => rfl)) pa_nil)) (pa_cons (pe_call R.ok hr rfl R.m R.k R.b .nil pass0 (pa_cons (pe_ix ix_tup (pv 0) pe_int (fun _ _ => rfl)) pa_nil)) pa_nil)) (by rfl))
    (pss_cons (ps_if (pt_cmpR op_eq (pe_ix ix_tup (pv 0) pe_int (fun _ _ => rfl)) pe_str (nomark _)) (pss_one (ps_ret (pe_op op_add_str (pe_op op_add_str (pe_op op_add_str (pe_op op_add_str pe_str (pv 1)) pe_str) (pv 2)) pe_str))) pss_nil)
    (pss_one (ps_ret (pe_op op_add_str (pe_op op_add_str (pv 1) pe_str) (pe_ifExp (pt_cmpR op_eq (pe_ix ix_tup (pe_ix ix_tup (pv 0) pe_int (fun _ _ => rfl)) pe_int (fun _ _ => rfl)) pe_str (nomark _)) (pe_op op_add_str (pe_op op_add_str pe_str (pv 2)) pe_str) (pv 2)))))))), ?_⟩
  have z3 : ∀ {k : Nat}, k ≤ 200000 → k ≤ sizeLine := fun h => Nat.le_trans h (by decide)
  obtain ⟨a1, a2, a3, a4, _⟩ := len1
  rcases fB_cases fm.f with ⟨w, rfl, hw3⟩ | ⟨w, x, rfl, hw1, _⟩ | ⟨m, w, a, b, en, rfl, hw2, ha, hb⟩
  · obtain ⟨ad, xs, rfl, hx, hA⟩ := dq_tuple hv
    obtain ⟨x0, rs, rfl, g0, hA⟩ := dqAll_cons hA
    cases g0
    have n1 : decide (V.str w = V.str "name") = false ∧ (!inV (V.str w) (lPe.map V.str)) = true := by rcases w_three hw3 with rfl | rfl | rfl <;> decide +kernel
    rw [kx_one] at q
    refine ⟨_, rfl, ad, _, 0, _, rfl, rfl, hx, atI_nat (j := 0) rfl, z3 (by show 2 ≤ 200000; decide), fun t0 h0 => ?_⟩
    have s0 := same_new h0 (.tup (lPe.map V.str))
    have hx' := s0.seqT hx (K := K)
    refine ⟨t0, _, rfl, .inr (SqT.of upd_same), rfl, flat_strs lPe, _, rfl, ?_⟩
    show if (!inV (V.str w) (lPe.map V.str)) = true then _ else _
    refine iteY n1.2 ?_
    refine ⟨_, rfl, ad, _, 0, _, rfl, rfl, hx', atI_nat (j := 0) rfl, rfl, _, rfl, iteN n1.1 ?_⟩
    exact ⟨_, rfl, ad, _, 0, _, rfl, rfl, hx', atI_nat (j := 0) rfl, q _ s0⟩
  · have hw' := w_one hw1
    injection hw' with hw'
    subst hw'
    obtain ⟨ad, xs, rfl, hx, hA⟩ := dq_tuple hv
    obtain ⟨x0, rs, rfl, g0, hA⟩ := dqAll_cons hA
    obtain ⟨x1, rs, rfl, g1, hA⟩ := dqAll_cons hA
    cases g0
    cases g1
    rw [kx_nm] at q
    refine ⟨_, rfl, ad, _, 0, _, rfl, rfl, hx, atI_nat (j := 0) rfl, z3 (by show 2 ≤ 200000; decide), fun t0 h0 => ?_⟩
    have s0 := same_new h0 (.tup (lPe.map V.str))
    have hx' := s0.seqT hx (K := K)
    refine ⟨t0, _, rfl, .inr (SqT.of upd_same), rfl, flat_strs lPe, _, rfl, ?_⟩
    show if (!inV (V.str "name") (lPe.map V.str)) = true then _ else _
    refine iteY (by decide +kernel) ?_
    refine ⟨_, rfl, ad, _, 0, _, rfl, rfl, hx', atI_nat (j := 0) rfl, rfl, _, rfl, iteY (by decide +kernel) ?_⟩
    exact ⟨_, rfl, ad, _, 1, _, rfl, rfl, hx', atI_nat (j := 1) rfl, q _ s0⟩
  · have en' : n = m := by omega
    subst en'
    obtain ⟨_, fa, fb⟩ := fm.two
    have la := fa.len
    have lb := fb.len
    obtain ⟨ad, xs, rfl, hx, hA⟩ := dq_tuple hv
    obtain ⟨x0, rs, rfl, g0, hA⟩ := dqAll_cons hA
    obtain ⟨x1, rs, rfl, g1, hA⟩ := dqAll_cons hA
    obtain ⟨x2, rs, rfl, g2, hA⟩ := dqAll_cons hA
    cases g0
    have n1 : (!inV (V.str w) (lPe.map V.str)) = false := by rcases w_two hw2 with z | z <;> rw [z] <;> decide +kernel
    rw [kx_two] at q
    refine ⟨_, rfl, ad, _, 0, _, rfl, rfl, hx, atI_nat (j := 0) rfl, z3 (by show 2 ≤ 200000; decide), fun t0 h0 => ?_⟩
    have s0 := same_new h0 (.tup (lPe.map V.str))
    have hx' := s0.seqT hx (K := K)
    refine ⟨t0, _, rfl, .inr (SqT.of upd_same), rfl, flat_strs lPe, _, rfl, ?_⟩
    show if (!inV (V.str w) (lPe.map V.str)) = true then _ else _
    refine iteN n1 ?_
    refine ⟨_, rfl, ad, _, 1, _, rfl, rfl, hx', atI_nat (j := 1) rfl, x1, a, rfl, Dq.mono s0 _ _ g1, fa, fun H1 s1 => ?_⟩
    have s01 := s0.trans s1
    refine ⟨_, rfl, ad, _, 2, _, rfl, rfl, s01.seqT hx, atI_nat (j := 2) rfl, x2, b, rfl, Dq.mono s01 _ _ g2, fb, fun H2 s2 => ⟨_, _, rfl, ?_⟩⟩
    have s02 := s01.trans s2
    generalize hsa : kx n a = sa at q la
    generalize hsb : kx n b = sb at q lb
    refine ⟨_, rfl, ad, _, 0, _, rfl, rfl, s02.seqT hx, atI_nat (j := 0) rfl, rfl, _, rfl, ?_⟩
    rcases w_two hw2 with y | y
    · injection y with y
      subst y
      rw [show wE "pair" = false by decide +kernel, if_neg Bool.false_ne_true] at q
      refine iteY (by decide +kernel) ?_
      have l1 : ("(" ++ sa).length = 1 + sa.length := by rw [Str.length_append, a1]
      have l2 : ("(" ++ sa ++ ", ").length = 1 + sa.length + 2 := by rw [Str.length_append, l1, a3]
      have l3 : ("(" ++ sa ++ ", " ++ sb).length = 1 + sa.length + 2 + sb.length := by rw [Str.length_append, l2]
      refine ⟨_, rfl, _, _, rfl, rfl, z3 (by omega), _, _, rfl, rfl, z3 (by omega), _, rfl, _, _, rfl, rfl, z3 (by omega), _, _, rfl, rfl, z3 (by omega), ?_⟩
      exact q _ s02
    · injection y with y
      subst y
      rw [show wE "either" = true by decide +kernel, if_pos rfl] at q
      refine iteN (by decide +kernel) ?_
      obtain ⟨ub, rb, eb, ib⟩ := isE_of hb
      have g2' := g2
      rw [eb] at g2'
      obtain ⟨a2', ys, rfl, hy, hB⟩ := dq_tuple g2'
      obtain ⟨y0, rs', rfl, q0, hB⟩ := dqAll_cons hB
      cases q0
      rw [ib] at q
      refine ⟨_, rfl, _, _, rfl, rfl, z3 (by omega), _, rfl, ad, _, 2, _, rfl, rfl, s02.seqT hx, atI_nat (j := 2) rfl, a2', _, 0, _, rfl, rfl, s02.seqT hy, atI_nat (j := 0) rfl, rfl, _, rfl, ?_⟩
      refine ite2 (fun c => ?_) (fun c => ?_)
      · rw [if_pos c] at q
        have l1 : ("(" ++ sb).length = 1 + sb.length := by rw [Str.length_append, a1]
        have l2 : (sa ++ " | ").length = sa.length + 3 := by rw [Str.length_append, a4]
        have l3 : ("(" ++ sb ++ ")").length = 1 + sb.length + 1 := by rw [Str.length_append, l1, a2]
        refine ⟨_, rfl, _, _, rfl, rfl, z3 (by omega), _, _, rfl, rfl, z3 (by omega), _, _, rfl, rfl, z3 (by omega), ?_⟩
        exact q _ s02
      · rw [if_neg c] at q
        have l2 : (sa ++ " | ").length = sa.length + 3 := by rw [Str.length_append, a4]
        refine ⟨_, rfl, _, _, rfl, rfl, z3 (by omega), ?_⟩
        exact q _ s02
theorem lktexts {f : Addr} {fd : FuncData} (F : Fun K "_law_kind_text" "_law_kind_text" sLk f fd) (bF : Binds K fd ["kind"] []) (mF : mg "_law_kind_text" = some (.ref f)) : ∀ n : Nat, Gv P w K mg base n "_law_kind_text" f fd ["kind"] (spTk K n)
  | 0 => ⟨none_tk, bF, F.kp, mF⟩
  | n + 1 => ⟨ok_lktext F (lktexts F bF mF n), bF, F.kp, mF⟩
theorem ok_showkind {f gI gT : Addr} {fd dI dT : FuncData} (F : Fun K "show_kind" "show_kind" sSk f fd) (IK : Gv P w K mg base 5 "is_kind" gI dI ["value"] (spIk K 120)) (TK : Gv P w K mg base 22 "text_of_kind" gT dT ["kind"] (spTk K 22)) : FnOk P w K mg base CX0 23 f fd ["kind"] (spKf K) := by
  refine F.ok scSk (fun vs H Q E h => ?_) (fun cdv A outer s H vs Q E hr0 h => ?_)
  · obtain ⟨v, ds, e, rfl, _⟩ := h
    rfl
  obtain ⟨v, ds, e, rfl, hv, fe, q⟩ := h
  have hr : Room 5 (A.deeper _) := hr0.mono (by omega)
  have hr22 : Room 22 (A.deeper _) := hr0
  refine ⟨_, (pss_cons (ps_if (pt_not (pt_val (pe_call IK.ok hr rfl IK.m IK.k IK.b .nil pass0 (pa_cons (pv 0) pa_nil)))) (pss_one ps_never) pss_nil)
    (pss_one (ps_ret (pe_call TK.ok hr22 rfl TK.m TK.k TK.b .nil pass0 (pa_cons (pv 0) pa_nil))))), ?_⟩
  have kn := fe.knB (m := 120) (by decide)
  unfold Toy.knB at kn
  rw [Bool.and_eq_true] at kn
  refine ⟨_, rfl, v, e, rfl, hv, fe.tx, Nat.le_trans fe.gd.2.2 (by decide), fun H1 s1 => ⟨_, rfl, ?_⟩⟩
  rw [kn.1]
  refine iteF ⟨_, rfl, v, e, rfl, Dq.mono s1 _ _ hv, fe.t, fun H2 s2 => q H2 (s1.trans s2)⟩
end
end Toy
set_option Elab.async false
set_option linter.all false
set_option maxRecDepth 100000
set_option maxHeartbeats 4000000
namespace Toy
open PySem L2 PyProof.Rows
theorem rowsT_take {ds : List PyData} (h : RowsT ds) : ((ds.map rowX).map (·.length)).sum ≤ 38464 * ds.length := by
  induction ds with
  | nil => exact Nat.le_refl _
  | cons r ds ih =>
    obtain ⟨y, k, e, l, f⟩ := h r List.mem_cons_self
    have := rowX_len e l f
    have := ih fun x m => h x (List.mem_cons_of_mem _ m)
    rw [List.map_cons, List.map_cons, List.sum_cons, List.length_cons]
    omega
section
variable {P : Program} {w : World} {K : PySem.W.Frag} {mg : Str → Option Value} {base : Heap} {C : Addr}
theorem ok_showbook {f gT gK : Addr} {fd dT dK : FuncData} (F : Fun K "show_book" "show_book" sSb f fd) (TO : GvX P w K mg base 64 "table_of" gT dT ["book"] (spTo K 120 C)) (TK : Gv P w K mg base 22 "text_of_kind" gK dK ["kind"] (spTk K 22)) : FnOk P w K mg base CX0 65 f fd ["book"] (spBs K) := by
  refine F.ok scSb (fun vs H Q E h => ?_) (fun cdv A outer s H vs Q E hr h => ?_)
  · obtain ⟨v, ds, rfl, _⟩ := h
    rfl
  obtain ⟨v, ds, rfl, ⟨hd, tp, ht, hdp, ok⟩, rt, few, q⟩ := h
  have hr22 : Room 22 (A.deeper _) := hr.mono (by omega)
  refine ⟨_, (pss_cons (ps_expr (pe_call TO.ok hr rfl TO.m TO.k TO.b .nil passL (pa_cons (pv 0) pa_nil)))
    (pss_one (ps_ret (pe_join pe_str (pe_lc (own := [("name", 1), ("kind", 2)]) (g := gTup K 2 (gCons (gName 1) (gCons (gName 2) gNil))) (tt := tYes) (te := tBk1 K) rfl scSb.nd (pi_tup (pv 0)) (blkOk_by (own := [("name", 1), ("kind", 2)]) (N := ["book", "name", "kind"]) (sc := defScope sSb) (by decide +kernel)) (fun _ _ _ _ _ => pg_tup rfl (pgs_cons (pg_name (i := 1) scSb.nd rfl (.inl rfl)) (pgs_cons (pg_name (i := 2) scSb.nd rfl (.inl rfl)) pgs_nil))) (fun _ _ _ _ _ => pts_nil) (fun _ _ _ _ _ => (pe_joined (PJ.cons (pe_fmt (pv 1)) (PJ.cons pe_str (PJ.cons (pe_fmt (pe_call TK.ok hr22 rfl TK.m TK.k TK.b .nil pass0 (pa_cons (pv 2) pa_nil))) (PJ.cons pe_str PJ.nil))))))))))), ?_⟩
  have z3 : ∀ {k : Nat}, k ≤ 200000 → k ≤ sizeLine := fun h => Nat.le_trans h (by decide)
  have z4 : ∀ {k : Nat}, k ≤ 200 → k < sizeLine := fun h => Nat.lt_of_le_of_lt h (by decide)
  refine ⟨_, rfl, v, .tuple ds, rfl, hd, tp, ht, hdp, fun _ t H1 s1 tb => ?_, fun e => by rw [ok] at e; cases e⟩
  obtain ⟨a, xs, rfl, hx, hA⟩ := dq_tuple hd
  have hl := hA.len
  obtain ⟨_, _, _, _, a5, a6⟩ := len1
  refine ⟨⟨_, rfl⟩, ?_⟩
  refine ⟨_, rfl, a, rfl, ⟨_, s1.seqT hx⟩, fun D nD => ?_⟩
  refine lc_it (walk_tup (xs := xs)) (fun i H2 => Same H1 H2 ∧ H2 D = some (.lst (((ds.take i).map rowX).map V.str))) ⟨same_new nD _, upd_same⟩ (fun i H2 _ z => (s1.trans z.1).seqT hx) ?_ ?_
  · rintro i y H2 _ hi ⟨s2, hD⟩ ⟨rfl, hy⟩
    obtain ⟨e, he, hde⟩ := dqAll_at _ _ _ hA hy
    obtain ⟨y', k', rfl, l60, ft⟩ := rt e (List.mem_of_getElem? he)
    obtain ⟨ad, ws, rfl, hw, hB⟩ := dq_tuple hde
    obtain ⟨x0, rs, rfl, g0, hB⟩ := dqAll_cons hB
    obtain ⟨x1, rs, rfl, g1', hB⟩ := dqAll_cons hB
    obtain rfl := dqAll_nil hB
    cases g0
    have s12 := s1.trans s2
    have lk := ft.len
    refine ⟨ad, _, rfl, s12.seqT hw, rfl, _, _, rfl, _, _, rfl, rfl, rfl, ?_⟩
    simp only [tYes, ↓reduceIte]
    refine ⟨_, rfl, .inl ⟨y', rfl, z3 (by omega), y', rfl, ?_, " = ", rfl, ?_, ?_⟩⟩
    · rw [Str.empty_append]
      exact z3 (by omega)
    · rw [Str.empty_append, Str.length_append]
      exact z3 (by omega)
    rw [Str.empty_append]
    refine ⟨_, rfl, x1, k', rfl, Dq.mono s12 _ _ g1', ft, fun H3 s3 => .inl ⟨_, rfl, z3 (by omega), _, rfl, z3 (by rw [Str.length_append, Str.length_append]; omega), ";", rfl, z3 (by rw [Str.length_append, Str.length_append, Str.length_append]; omega), ?_⟩⟩
    refine ⟨_, s3 _ _ hD, ?_, fun b o z => by rw [upd_ne (ne_of_none z nD)]; exact s3 _ _ (s2 _ _ z), ?_⟩
    · rw [List.length_map, List.length_map]
      exact z4 (Nat.le_trans (List.length_take_le' _ _) (by omega))
    · rw [upd_same, List.take_add_one, he]
      simp only [Option.toList, List.map_append, List.map_cons, List.map_nil]
      rfl
  rintro H2 ⟨s2, hD⟩
  rw [hl, List.take_length] at hD
  have sm := rowsT_take rt
  refine ⟨"\n", D, ds.map rowX, rfl, rfl, .inl (SqL.of hD), ?_, q H2 (s1.trans s2)⟩
  rw [List.length_map, show (("\n" : Str)).length = 1 by decide +kernel]
  have : 38464 * ds.length ≤ 38464 * 100 := Nat.mul_le_mul_left _ few
  omega
theorem ok_lbook {f gK : Addr} {fd dK : FuncData} (F : Fun K "_law_book_shown" "_law_book_shown" sLb f fd) (LK : Gv P w K mg base 22 "_law_kind_text" gK dK ["kind"] (spTk K 22)) : FnOk P w K mg base CX0 23 f fd ["book"] (spBx K) := by
  refine F.ok scLb (fun vs H Q E h => ?_) (fun cdv A outer s H vs Q E hr22 h => ?_)
  · obtain ⟨v, ds, rfl, _⟩ := h
    rfl
  obtain ⟨v, ds, rfl, hd, rt, few, q⟩ := h
  refine ⟨_, (pss_one (ps_ret (pe_join pe_str (pe_lc (own := [("name", 1), ("kind", 2)]) (g := gTup K 2 (gCons (gName 1) (gCons (gName 2) gNil))) (tt := tYes) (te := tBk2 K) rfl scLb.nd (pi_tup (pv 0)) (blkOk_by (own := [("name", 1), ("kind", 2)]) (N := ["book", "name", "kind"]) (sc := defScope sLb) (by decide +kernel)) (fun _ _ _ _ _ => pg_tup rfl (pgs_cons (pg_name (i := 1) scLb.nd rfl (.inl rfl)) (pgs_cons (pg_name (i := 2) scLb.nd rfl (.inl rfl)) pgs_nil))) (fun _ _ _ _ _ => pts_nil) (fun _ _ _ _ _ => (pe_op op_add_str (pe_op op_add_str (pe_op op_add_str (pv 1) pe_str) (pe_call LK.ok hr22 rfl LK.m LK.k LK.b .nil pass0 (pa_cons (pv 2) pa_nil))) pe_str)))))), ?_⟩
  have z3 : ∀ {k : Nat}, k ≤ 200000 → k ≤ sizeLine := fun h => Nat.le_trans h (by decide)
  have z4 : ∀ {k : Nat}, k ≤ 200 → k < sizeLine := fun h => Nat.lt_of_le_of_lt h (by decide)
  obtain ⟨a, xs, rfl, hx, hA⟩ := dq_tuple hd
  have hl := hA.len
  obtain ⟨_, _, _, _, a5, a6⟩ := len1
  refine ⟨⟨_, rfl⟩, ?_⟩
  refine ⟨_, rfl, a, rfl, ⟨_, hx⟩, fun D nD => ?_⟩
  refine lc_it (walk_tup (xs := xs)) (fun i H2 => Same H H2 ∧ H2 D = some (.lst (((ds.take i).map rowX).map V.str))) ⟨same_new nD _, upd_same⟩ (fun i H2 _ z => z.1.seqT hx) ?_ ?_
  · rintro i y H2 _ hi ⟨s2, hD⟩ ⟨rfl, hy⟩
    obtain ⟨e, he, hde⟩ := dqAll_at _ _ _ hA hy
    obtain ⟨y', k', rfl, l60, ft⟩ := rt e (List.mem_of_getElem? he)
    obtain ⟨ad, ws, rfl, hw, hB⟩ := dq_tuple hde
    obtain ⟨x0, rs, rfl, g0, hB⟩ := dqAll_cons hB
    obtain ⟨x1, rs, rfl, g1', hB⟩ := dqAll_cons hB
    obtain rfl := dqAll_nil hB
    cases g0
    have lk := ft.len
    refine ⟨ad, _, rfl, s2.seqT hw, rfl, _, _, rfl, _, _, rfl, rfl, rfl, ?_⟩
    simp only [tYes, ↓reduceIte]
    refine ⟨_, rfl, y', " = ", rfl, rfl, z3 (by omega), ?_⟩
    refine ⟨_, rfl, x1, k', rfl, Dq.mono s2 _ _ g1', ft, fun H3 s3 => ⟨_, _, rfl, rfl, z3 (by rw [Str.length_append]; omega), _, ";", rfl, rfl, z3 (by rw [Str.length_append, Str.length_append]; omega), ?_⟩⟩
    refine ⟨_, s3 _ _ hD, ?_, fun b o z => by rw [upd_ne (ne_of_none z nD)]; exact s3 _ _ (s2 _ _ z), ?_⟩
    · rw [List.length_map, List.length_map]
      exact z4 (Nat.le_trans (List.length_take_le' _ _) (by omega))
    · rw [upd_same, List.take_add_one, he]
      simp only [Option.toList, List.map_append, List.map_cons, List.map_nil]
      rfl
  rintro H2 ⟨s2, hD⟩
  rw [hl, List.take_length] at hD
  have sm := rowsT_take rt
  refine ⟨"\n", D, ds.map rowX, rfl, rfl, .inl (SqL.of hD), ?_, q H2 s2⟩
  rw [List.length_map, show (("\n" : Str)).length = 1 by decide +kernel]
  have : 38464 * ds.length ≤ 38464 * 100 := Nat.mul_le_mul_left _ few
  omega
end
end Toy
set_option Elab.async false
set_option linter.all false
set_option maxRecDepth 100000
set_option maxHeartbeats 4000000
namespace L2
open PySem PySem.Spec PyProof.Rows
/-! ### f(q1 = .., q2 = .., q3 = ..), in any order -/
structure KB3g (K : PySem.W.Frag) (fd : FuncData) (q1 q2 q3 p1 p2 p3 : Str) (pi : Value → Value → Value → List Value) : Prop where
  to : ∀ (s : Shared) (a b c : Value), BindsTo s fd ⟨[], [(q1, a), (q2, b), (q3, c)]⟩ ([p1, p2, p3].zip (pi a b c))
theorem Fun.binds3g {K : PySem.W.Frag} {x qual : Str} {st : Stmt} {f : Addr} {fd : FuncData} {q1 q2 q3 p1 p2 p3 : Str} {pi : Value → Value → Value → List Value} (F : Fun K x qual st f fd)
    (h : ∀ (kV doc pm : Value) (an : Option Addr) (cdv ct a b c : Value), bindArgs (PySem.W.fnOf x qual (defArgs st) (defBody st) (defScope st) .none kV doc pm an cdv ct) ⟨[], [(q1, a), (q2, b), (q3, c)]⟩ = pure ([p1, p2, p3].zip (pi a b c))) : KB3g K fd q1 q2 q3 p1 p2 p3 pi := by
  obtain ⟨oc, od, kV, doc, pm, an, cdv, ct, osl, rfl, lk, hcd⟩ := F.ex
  exact ⟨fun s a b c => BindsTo.of_eq (h kV doc pm an cdv ct a b c)⟩
def tCallKg (sp : Sp) (pi : V → V → V → List V) (tk : TA) : TE := fun σ H Q => tk σ H fun zs H2 => ∃ x y z, zs = [x, y, z] ∧ sp (pi x y z) H2 Q E0
theorem pe_callKg {X : Cx} {k : Nat} {f : Addr} {fd : FuncData} {q1 q2 q3 p1 p2 p3 : Str} {sp : Sp} {x : Str} {p pos : Pos} {kws : List Keyword} {tk : TA} {pi : V → V → V → List V} {pi' : Value → Value → Value → List Value} (F : FnOk X.prog X.w X.K X.mg X.base CX0 k f fd [p1, p2, p3] sp) (hr : Room k X.A) (hg : Gl X x) (hm : X.mg x = some (.ref f)) (hk : PySem.W.keepIn X.K (.ref f) = true) (hb : KB3g X.K fd q1 q2 q3 p1 p2 p3 pi')
    (hv : ∀ x y z a b c, RelV x a → RelV y b → RelV z c → Vals (pi x y z) (pi' a b c)) (hkw : PK X kws tk) (hall : (backToKw pos (keywordEach kws X.env)).all (·.1.isSome) = true := by rfl) (hks : (backToKw pos (keywordEach kws X.env)).filterMap (·.1) = [q1, q2, q3] := by rfl) (hdb : (x == ("__debug__" : Str)) = false := by decide)
    (hpl : ((backTo pos (starEach [] X.env)).any (·.1) || (backToKw pos (keywordEach kws X.env)).any (·.1.isNone)) = false := by rfl) :
    PE X (.Call (.Name x p) [] kws pos) (tCallKg sp pi tk) := by
  refine ⟨fun pins s σ H Q I h => ?_⟩
  refine wpAny_Call_Name_kw (ld_glob I hg hm ?_ hdb)
  refine PySem.W.callWith_KW0 (h₀ := X.base) I.ok.mod.kin hk hall ?_ hpl
  refine thn (hkw.run pos pins s σ H _ I h) fun ws s2 ⟨zs, H2, I2, rz, z, y, x, ez, qq⟩ => ⟨I2.kIn, ?_⟩
  subst ez
  cases rz with
  | cons r1 rt =>
    cases rt with
    | cons r2 rt =>
      cases rt with
      | cons r3 rt =>
        cases rt
        rename_i c1 b1 a1 _
        rw [hks]
        refine wpAny_call (codeAny_mono (F.run X.A X.stack s2 H2 ⟨[], [(q1, c1), (q2, b1), (q3, a1)]⟩ (pi' c1 b1 a1) (pi z y x) Q E0 hr I2.env0 (hb.to s2 c1 b1 a1) (hv _ _ _ _ _ _ r1 r2 r3) qq) fun r s' hq => ?_)
        cases r with
        | error e => exact (pass0 (X := X)) pins σ H2 s2 e s' I2 hq
        | ok fl =>
          cases fl with
          | ret u => exact I2.after hq
          | next => exact False.elim hq
          | brk => exact False.elim hq
          | cont => exact False.elim hq
end L2
namespace Toy
open PySem L2 PyProof.Rows
abbrev sIs : Stmt := top 80
/-! ### texts as data -/
def SOk (x : Str) : Prop := ∀ c ∈ x.cps.toList, c < 16 ^ 8
theorem sok_app {x y : Str} (a : SOk x) (b : SOk y) : SOk (x ++ y) := fun c m => by
  rw [Str.cps_append, Array.toList_append] at m
  rcases List.mem_append.mp m with m | m
  · exact a c m
  · exact b c m
theorem sok_of {x : Str} (h : PyData.strOk x = true) : SOk x := fun c m => Nat.lt_trans (ok_code h m) (by decide)
theorem sok_nT (i : Int) : SOk (nT i) := fun c m => by
  have e : (nT i).cps.toList = (toString i).toList.map Char.toNat := by
    show (Str.ofString (toString i)).cps.toList = _
    rw [Str.ofString_eq_toList]
  rw [e] at m
  obtain ⟨ch, _, rfl⟩ := List.mem_map.mp m
  have v : ch.val.toNat < 0xd800 ∨ (0xdfff < ch.val.toNat ∧ ch.val.toNat < 0x110000) := ch.valid
  show ch.val.toNat < 16 ^ 8
  have : (16 : Nat) ^ 8 = 4294967296 := rfl
  omega
theorem Tx.sok {bk : List (Str × PyData)} {b : Bool} {n : Nat} {k d : PyData} {t : Str} (h : Tx bk b n k d t) : SOk t := by
  have l : ∀ x : Str, PyData.strOk x = true → SOk x := fun x => sok_of
  induction h with
  | num _ _ _ => exact sok_nT _
  | star _ => exact l _ (by decide +kernel)
  | unit => exact l _ (by decide +kernel)
  | name _ _ ih => exact ih
  | pair _ _ _ ia ib => exact sok_app (sok_app (sok_app (sok_app (l _ (by decide +kernel)) ia) (l _ (by decide +kernel))) ib) (l _ (by decide +kernel))
  | left _ ih => exact sok_app (sok_app (sok_app (l _ (by decide +kernel)) (l _ (by decide +kernel))) ih) (l _ (by decide +kernel))
  | right _ ih => exact sok_app (sok_app (sok_app (l _ (by decide +kernel)) (l _ (by decide +kernel))) ih) (l _ (by decide +kernel))
theorem kx_sok : ∀ {n : Nat} {d : PyData}, fB n d = true → stB d = true → SOk (kx n d) := by
  have l : ∀ x : Str, PyData.strOk x = true → SOk x := fun x => sok_of
  intro n
  induction n with
  | zero => intro d f; cases f
  | succ n ih =>
    intro d f st
    rcases fB_cases f with ⟨w, rfl, hw3⟩ | ⟨w, x, rfl, _, _⟩ | ⟨m, w, a, b, en, rfl, hw2, ha, hb⟩
    · rw [kx_one]
      rcases w_three hw3 with rfl | rfl | rfl <;> exact l _ (by decide +kernel)
    · rw [kx_nm]
      have st' : (PyData.strOk w && (PyData.strOk x && true)) = true := st
      simp only [Bool.and_eq_true] at st'
      exact l _ st'.2.1
    · have en' : n = m := by omega
      subst en'
      have st' : (PyData.strOk w && (stB a && (stB b && true))) = true := st
      simp only [Bool.and_eq_true] at st'
      have ia := ih ha st'.2.1
      have ib := ih hb st'.2.2.1
      rw [kx_two]
      split
      · refine sok_app (sok_app ia (l _ (by decide +kernel))) ?_
        split
        · exact sok_app (sok_app (l _ (by decide +kernel)) ib) (l _ (by decide +kernel))
        · exact ib
      · exact sok_app (sok_app (sok_app (sok_app (l _ (by decide +kernel)) ia) (l _ (by decide +kernel))) ib) (l _ (by decide +kernel))
/-- a list of texts may be shown -/
theorem txts_ok {l : List Str} (h : ∀ x ∈ l, SOk x) (n : (l.map (·.length)).sum + l.length ≤ 1600000) : (PyData.list (l.map PyData.str)).showable = true ∧ (PyData.list (l.map PyData.str)).shown.length ≤ sizeLine ∧ (PyData.list (l.map PyData.str)).depth ≤ 60 := by
  have a : PyData.showableAll (l.map PyData.str) = true := by
    clear h n
    induction l with
    | nil => simp only [List.map_nil, PyData.showableAll]
    | cons x l ih => simp only [List.map_cons, PyData.showableAll, PyData.showable, ih, Bool.and_true]
  have b : PyData.leavesShortAll 8 (l.map PyData.str) = true := by
    clear n a
    induction l with
    | nil => simp only [List.map_nil, PyData.leavesShortAll]
    | cons x l ih =>
      simp only [List.map_cons, PyData.leavesShortAll, PyData.leavesShort, Bool.and_eq_true]
      exact ⟨List.all_eq_true.mpr fun c m => decide_eq_true (h x List.mem_cons_self c m), ih fun y m => h y (List.mem_cons_of_mem _ m)⟩
  have c : PyData.weightAll (l.map PyData.str) ≤ (l.map (·.length)).sum + l.length := by
    clear h n a b
    induction l with
    | nil => simp [PyData.weightAll]
    | cons x l ih =>
      simp only [List.map_cons, PyData.weightAll, PyData.weight, List.sum_cons, List.length_cons]
      have : x.length = x.cps.size := rfl
      omega
  have d : PyData.depthAll (l.map PyData.str) = 0 := by
    clear h n a b c
    induction l with
    | nil => simp [PyData.depthAll]
    | cons x l ih => simp only [List.map_cons, PyData.depthAll, PyData.depth, ih, Nat.max_self]
  refine ⟨by simp only [PyData.showable]; exact a, ?_, by simp only [PyData.depth, d]; decide⟩
  have e := PyData.shown_le 8 (by decide) (.list (l.map PyData.str)) (by simp only [PyData.leavesShort]; exact b)
  simp only [PyData.weight] at e
  have f : (8 + 2) * PyData.weightAll (l.map PyData.str) + 8 ≤ 10 * 1600000 + 8 := by omega
  exact Nat.le_trans e (Nat.le_trans f (by decide))
def spIsS (K : PySem.W.Frag) : Sp := fun vs H Q _ => ∃ (vB vK vD : V) (b : Bool) (ds : List PyData) (j : Nat) (e d : PyData) (n : Nat), vs = [vB, vK, vD, .bl b] ∧ Dq K H vB (.tuple ds) ∧ BookL j ds ∧ j ≤ 2 ∧ Dq K H vK e ∧ FmA ds e ∧ Dq K H vD d ∧ Val numOk (bkOf (.tuple ds)) n e d ∧ n ≤ 60 ∧ ∀ H', Same H H' → Q (.bl true) H'
theorem numOk_pl : ∀ d, numOk d → plB d = true := fun d h => by
  obtain ⟨i, rfl, _⟩ := h
  rfl
theorem emptyD_pl : ∀ d, emptyD d → plB d = true := fun d h => by
  obtain rfl : d = .tuple [] := h
  rfl
theorem valL_of {L : PyData → Prop} (hL : ∀ d, L d → plB d = true) {j : Nat} {ds : List PyData} {e x : PyData} {n : Nat} (b : BookL j ds) (hj : j ≤ 2) (f : FmA ds e) (v : Val L (bkOf (.tuple ds)) n e x) (nn : n ≤ 1000) : ValL L (.tuple ds) e x n := ⟨bkK_of b hj, Nat.le_trans (bk_few b hj) (by decide), f.ok, val_pl hL v, v, nn⟩
section
variable {P : Program} {w : World} {K : PySem.W.Frag} {mg : Str → Option Value} {base : Heap}
theorem scIs : FnScope ["book", "kind", "value", "by_name", "blank", "due", "found"] ["book", "kind", "value", "by_name"] (defScope sIs) := ⟨rfl, rfl, rfl, by decide +kernel, rfl, by decide +kernel, by decide +kernel⟩
theorem ok_isshown {f gBL gVT gSV gSS gSM : Addr} {fd dBL dVT dSV dSS dSM : FuncData} (F : Fun K "_law_is_shown" "_law_is_shown" sIs f fd) (BL : Gv P w K mg base 62 "_law_blank" gBL dBL ["book", "kind", "value"] (spBl K 60)) (VT : Gv P w K mg base 62 "_law_value_text" gVT dVT ["book", "kind", "value", "is_blank"] (spVt K 60))
    (SV : Gv P w K mg base 66 "show_value" gSV dSV ["book", "kind", "value"] (spSh K numOk false)) (kSV : KB3g K dSV "value" "kind" "book" "book" "kind" "value" (fun x y z => [z, y, x])) (SS : Gv P w K mg base 66 "show_shape" gSS dSS ["book", "kind", "shape"] (spSh K emptyD true)) (kSS : KB3g K dSS "shape" "book" "kind" "book" "kind" "shape" (fun x y z => [y, z, x]))
    (SM : GvZ (RoomG 1) P w K mg base "_law_same" gSM dSM ["told", "due"] (spSame K)) : FnZ (RoomG 127) P w K mg base f fd ["book", "kind", "value", "by_name"] (spIsS K) := by
  refine F.okZ true scIs (fun A z => z.depth) (fun _ A z => z.room.hd) (fun vs H Q E h => ?_) (fun cdv A outer s H vs Q hz0 h => ?_)
  · obtain ⟨vB, vK, vD, b, ds, j, e, d, n, rfl, _⟩ := h
    rfl
  obtain ⟨vB, vK, vD, b, ds, j, e, d, n, rfl, hB, bL, hj, hK, fe, hD, val, n60, q⟩ := h
  have hz : ∀ env, RoomG 126 (A.deeper env) := fun env => hz0.deeper env
  refine ⟨_, (pss_cons (ps_set (i := 4) scIs.nd rfl (.inl rfl) (pe_call BL.ok ((hz _).room.mono (by omega)) rfl BL.m BL.k BL.b .nil pass0 (pa_cons (pv 0) (pa_cons (pv 1) (pa_cons (pv 2) pa_nil)))))
    (pss_cons (ps_set (i := 5) scIs.nd rfl (.inl rfl) (pe_lst (pa_cons (pe_call VT.ok ((hz _).room.mono (by omega)) rfl VT.m VT.k VT.b .nil pass0 (pa_cons (pv 0) (pa_cons (pv 1) (pa_cons (pv 2) (pa_cons pe_bl pa_nil))))) (pa_cons (pe_call VT.ok ((hz _).room.mono (by omega)) rfl VT.m VT.k VT.b .nil pass0 (pa_cons (pv 0) (pa_cons (pv 1) (pa_cons (pv 4) (pa_cons pe_bl pa_nil))))) pa_nil))))
    (pss_cons (ps_if (pt_val (pv 3)) (pss_one (ps_set (i := 6) scIs.nd rfl (.inl rfl) (pe_lst (pa_cons (pe_callKg (pi := (fun x y z => [z, y, x])) SV.ok ((hz _).room.mono (by omega)) rfl SV.m SV.k kSV (by intro _ _ _ _ _ _ h1 h2 h3; first | exact .cons h3 (.cons h2 (.cons h1 .nil)) | exact .cons h2 (.cons h3 (.cons h1 .nil)) | exact .cons h3 (.cons h1 (.cons h2 .nil))) (pk_cons (pv 2) (pk_cons (pv 1) (pk_cons (pv 0) pk_nil)))) (pa_cons (pe_callKg (pi := (fun x y z => [y, z, x])) SS.ok ((hz _).room.mono (by omega)) rfl SS.m SS.k kSS (by intro _ _ _ _ _ _ h1 h2 h3; first | exact .cons h3 (.cons h2 (.cons h1 .nil)) | exact .cons h2 (.cons h3 (.cons h1 .nil)) | exact .cons h3 (.cons h1 (.cons h2 .nil))) (pk_cons (pv 4) (pk_cons (pv 0) (pk_cons (pv 1) pk_nil)))) pa_nil))))) (pss_one (ps_set (i := 6) scIs.nd rfl (.inl rfl) (pe_lst (pa_cons (pe_call SV.ok ((hz _).room.mono (by omega)) rfl SV.m SV.k SV.b .nil pass0 (pa_cons (pv 0) (pa_cons (pv 1) (pa_cons (pv 2) pa_nil)))) (pa_cons (pe_call SS.ok ((hz _).room.mono (by omega)) rfl SS.m SS.k SS.b .nil pass0 (pa_cons (pv 0) (pa_cons (pv 1) (pa_cons (pv 4) pa_nil)))) pa_nil))))))
    (pss_one (ps_ret (pe_callZD SM.ok ((hz _).mono (by omega)) rfl SM.m SM.k SM.b (pa_cons (pv 6) (pa_cons (pv 5) pa_nil)))))))), ?_⟩
  have z3 : ∀ {k : Nat}, k ≤ 200 → k ≤ sizeLine := fun h => Nat.le_trans h (by decide)
  have dfew : ds.length ≤ 1000 := by
    have := bk_few bL hj
    rw [show (bkOf (.tuple ds)).length = ds.length from List.length_map ..] at this
    omega
  obtain ⟨d', bl, val'⟩ := bl_of val
  obtain ⟨t1, tx1⟩ := tx_num val
  obtain ⟨t2, tx2⟩ := tx_star val'
  have l1 := tx1.len
  have l2 := tx2.len
  have ok := txts_ok (l := [t1, t2]) (fun x m => by
    rcases List.mem_cons.mp m with e | m
    · rw [e]; exact tx1.sok
    · rw [List.mem_singleton.mp m]; exact tx2.sok) (by show t1.length + (t2.length + 0) + 2 ≤ _; omega)
  have rp := rowsP_L bL
  refine ⟨_, rfl, _, rfl, _, rfl, vB, vK, vD, ds, n, e, d, d', rfl, hB, rp, dfew, hK, hD, val, n60, bl, fun u1 H1 s1 D1 => ?_⟩
  refine ⟨_, rfl, _, rfl, _, rfl, vB, vK, vD, false, ds, n, e, d, t1, rfl, Dq.mono s1 _ _ hB, rp, dfew, Dq.mono s1 _ _ hK, Dq.mono s1 _ _ hD, tx1, n60, by omega, fun H2 s2 => ?_⟩
  have s12 := s1.trans s2
  refine ⟨_, rfl, _, rfl, _, rfl, vB, vK, u1, true, ds, n, e, d', t2, rfl, Dq.mono s12 _ _ hB, rp, dfew, Dq.mono s12 _ _ hK, Dq.mono s2 _ _ D1, tx2, n60, by omega, fun H3 s3 => ⟨z3 (by show 2 ≤ 200; decide), fun dl hdl => ?_⟩⟩
  have s4 := same_new hdl (.lst [.str t1, .str t2])
  have hd4 : upd H3 dl (.lst [.str t1, .str t2]) dl = some (.lst [.str t1, .str t2]) := upd_same
  generalize upd H3 dl (.lst [.str t1, .str t2]) = H4 at s4 hd4 ⊢
  have s24 := s2.trans (s3.trans s4)
  have s14 := s1.trans s24
  have at4 : ∀ {H' : Hp}, Same H4 H' → BookAt K 120 H' vB (.tuple ds) ∧ KindAt K 120 H' vK (.tuple ds) e ∧ Dq K H' vD d ∧ Dq K H' u1 d' := fun s => ⟨bookAt_L bL hj (Dq.mono (s14.trans s) _ _ hB), fe.at_ (Dq.mono (s14.trans s) _ _ hK), Dq.mono (s14.trans s) _ _ hD, Dq.mono (s24.trans s) _ _ D1⟩
  have vn := valL_of numOk_pl bL hj fe val (by omega)
  have ve := valL_of emptyD_pl bL hj fe val' (by omega)
  refine ⟨_, rfl, b, rfl, ?_⟩
  refine ite2 (fun _ => ?_) (fun _ => ?_)
  · obtain ⟨p1, p2, p3, p4⟩ := at4 (Same.refl _)
    refine ⟨_, rfl, _, rfl, _, rfl, _, _, _, rfl, vB, vK, vD, .tuple ds, e, d, n, t1, rfl, p1, p2, p3, vn, tx1, fun H5 s5 => ?_⟩
    obtain ⟨p1, p2, p3, p4⟩ := at4 s5
    refine ⟨_, rfl, _, rfl, _, rfl, _, _, _, rfl, vB, vK, u1, .tuple ds, e, d', n, t2, rfl, p1, p2, p4, ve, tx2, fun H6 s6 => ⟨z3 (by show 2 ≤ 200; decide), fun gl hgl => ?_⟩⟩
    have s7 := same_new hgl (.lst [.str t1, .str t2])
    exact ⟨_, rfl, _, rfl, gl, dl, [.str t1, .str t2], rfl, .lst (SqL.of upd_same) (.cons (.str _) (.cons (.str _) .nil)), .lst (SqL.of ((s5.trans (s6.trans s7)) _ _ hd4)) (.cons (.str _) (.cons (.str _) .nil)), ok.1, ok.2.1, ok.2.2, q _ (s14.trans (s5.trans (s6.trans s7)))⟩
  · obtain ⟨p1, p2, p3, p4⟩ := at4 (Same.refl _)
    refine ⟨_, rfl, _, rfl, _, rfl, vB, vK, vD, .tuple ds, e, d, n, t1, rfl, p1, p2, p3, vn, tx1, fun H5 s5 => ?_⟩
    obtain ⟨p1, p2, p3, p4⟩ := at4 s5
    refine ⟨_, rfl, _, rfl, _, rfl, vB, vK, u1, .tuple ds, e, d', n, t2, rfl, p1, p2, p4, ve, tx2, fun H6 s6 => ⟨z3 (by show 2 ≤ 200; decide), fun gl hgl => ?_⟩⟩
    have s7 := same_new hgl (.lst [.str t1, .str t2])
    exact ⟨_, rfl, _, rfl, gl, dl, [.str t1, .str t2], rfl, .lst (SqL.of upd_same) (.cons (.str _) (.cons (.str _) .nil)), .lst (SqL.of ((s5.trans (s6.trans s7)) _ _ hd4)) (.cons (.str _) (.cons (.str _) .nil)), ok.1, ok.2.1, ok.2.2, q _ (s14.trans (s5.trans (s6.trans s7)))⟩
end
end Toy
set_option Elab.async false
set_option linter.all false
set_option maxRecDepth 100000
set_option maxHeartbeats 8000000
namespace Toy
open PySem L2 PyProof.Rows
abbrev sRight : Stmt := top 81
abbrev rgS : List Str := ["well", "book", "lap", "costs", "names", "text", "kind", "value", "name"]
def spRi : Sp := fun vs H Q _ => ∃ (wl : Addr), vs = [.ref wl] ∧ WellAt H wl ∧ ∀ H', But wl H H' → Q (.bl true) H'
def spKAny (K : PySem.W.Frag) : Sp := fun vs H Q E => ∃ n : Nat, n ≤ 6 ∧ spKx K n vs H Q E
/-- a new object, among others -/
theorem Gr.put {wl t : Addr} {G H H1 : Hp} {o : HO} (s : Stt wl G H) (e : Same H H1) (n : H t = none) (h : H1 t = some o) : Gr wl G H (upd G t o) H1 := by
  have gt : G t = none := s.sub.free n
  refine ⟨same_new gt o, fun b u hb => ?_, fun b h1 h2 => ?_, well_same s.well e, .of e⟩
  · by_cases c : b = t
    · subst c
      rw [upd_same] at hb
      injection hb with hb
      rw [← hb]
      exact h
    · rw [upd_ne c] at hb
      exact e _ _ (s.sub _ _ hb)
  · by_cases c : b = t
    · subst c
      exact absurd n h2
    · rw [upd_ne c]
      exact h1
theorem either_kt {ok : Str → Prop} {e : PyData} (t : KT ok 6 e) : KT ok 8 (.tuple [.str "either", e, .tuple [.str "pair", .tuple [.str "unit"], .tuple [.str "thing"]]]) := .two (by decide +kernel) (t.up (by decide)) (.two (by decide +kernel) (.one (by decide +kernel)) (.one (by decide +kernel)))
theorem either_ct (hw : List (Str × Int)) (e : PyData) : ct hw 22 (.tuple [.str "either", e, .tuple [.str "pair", .tuple [.str "unit"], .tuple [.str "thing"]]]) < 60 := by
  rw [ct_two, if_pos (by decide +kernel), ct_two, if_neg (by decide +kernel), ct_one, ct_one, if_neg (by decide +kernel), if_neg (by decide +kernel)]
  have a := (mnI_le (i := 10 ^ 6) (j := 1 + mnI (ct hw 21 e) (mnI (10 ^ 6) (1 + (1 + 1))))).2
  have c := (mnI_le (i := ct hw 21 e) (j := mnI (10 ^ 6) (1 + (1 + 1)))).2
  have d := (mnI_le (i := 10 ^ 6) (j := 1 + (1 + 1))).2
  omega
section
variable {P : Program} {w : World} {K : PySem.W.Frag} {mg : Str → Option Value} {base : Heap}
theorem kindsA {f : Addr} {fd : FuncData} (G : ∀ n : Nat, Gv P w K mg base (3 + n) "_law_kind" f fd ["well", "names", "deep"] (spKx K n)) : FnOk P w K mg base CX0 9 f fd ["well", "names", "deep"] (spKAny K) :=
  ⟨fun vs H Q E ⟨n, _, h⟩ => (G n).ok.len vs H Q E h, fun A outer s H args us vs Q E hr e0 bt vv ⟨n, hn, h⟩ => (G n).ok.run A outer s H args us vs Q E (hr.mono (by omega)) e0 bt vv h⟩
theorem scRg : FnScope rgS ["well"] (defScope sRight) := ⟨rfl, rfl, rfl, by decide +kernel, rfl, by decide +kernel, by decide +kernel⟩
theorem rowsT_of {j : Nat} {ds : List PyData} (b : BookL j ds) (hj : j ≤ 2) : RowsT ds := fun r m => by
  obtain ⟨y, k, e, ty, _⟩ := b.rows r m
  have m' := m
  rw [e] at m'
  have := ty.2
  exact ⟨y, k, e, by omega, (row_fm b hj m').1.t⟩
theorem bx_ok {j : Nat} {ds : List PyData} (b : BookL j ds) (hj : j ≤ 2) : SOk (bx ds) ∧ (bx ds).length ≤ 620000 := by
  have few : ds.length ≤ 16 := by
    have := bk_few b hj
    rw [show (bkOf (.tuple ds)).length = ds.length from List.length_map ..] at this
    exact this
  have e : bx ds = Str.join "\n" (ds.map rowX) := StrLaws.glued_eq_join _ _
  constructor
  · rw [e]
    have all : ∀ x ∈ ds.map rowX, SOk x := fun x m => by
      obtain ⟨r, mr, rfl⟩ := List.mem_map.mp m
      obtain ⟨y, k, rfl, ty, _⟩ := b.rows r mr
      have f := (row_fm b hj mr).1
      exact sok_app (sok_app (sok_app (sok_of ty.1) (sok_of (by decide +kernel))) (kx_sok f.f f.st)) (sok_of (by decide +kernel))
    generalize ds.map rowX = l at all
    induction l with
    | nil => exact fun c m => nomatch m
    | cons x r ih =>
      cases r with
      | nil => exact all x List.mem_cons_self
      | cons y r => exact sok_app (sok_app (all x List.mem_cons_self) (sok_of (by decide +kernel))) (ih fun z m => all z (List.mem_cons_of_mem _ m))
  · rw [e]
    have a := StrLaws.join_length_le "\n" (ds.map rowX)
    have c := rowsT_take (rowsT_of b hj)
    rw [List.length_map, show (("\n" : Str)).length = 1 by decide +kernel] at a
    have : 38464 * ds.length ≤ 38464 * 16 := Nat.mul_le_mul_left _ few
    omega
theorem ok_right {f gD gP gB gH gA gCS gCO gLB gSB gKI gLK gSK gGR gIS gSM : Addr} {fd dD dP dB dH dA dCS dCO dLB dSB dKI dLK dSK dGR dIS dSM : FuncData} (F : Fun K "_law_right" "_law_right" sRight f fd) (RN : Nr mg) (D : Gv P w K mg base 1 "_law_draw" gD dD ["well", "many"] spDraw) (PT' : Gv P w K mg base 2 "_law_pick" gP dP ["well", "some"] (spPick K))
    (BK : Gv P w K mg base 8 "_law_book" gB dB ["well"] (spBk K)) (HL : Gv P w K mg base 3 "_law_hole" gH dH ["well", "book"] (spHl K)) (AB : Gv P w K mg base 32 "_law_all_by" gA dA ["book", "hole"] (spAb K)) (CS : Gv P w K mg base 23 "_law_costs" gCS dCS ["book"] (spCs K)) (CO : Gv P w K mg base 22 "_law_cost" gCO dCO ["kind", "costs"] (spCo K 22))
    (LB : Gv P w K mg base 23 "_law_book_shown" gLB dLB ["book"] (spBx K)) (SB : Gv P w K mg base 65 "show_book" gSB dSB ["book"] (spBs K)) (kSB : KBo K dSB ["book"]) (KI : Gv P w K mg base 9 "_law_kind" gKI dKI ["well", "names", "deep"] (spKAny K)) (LK : Gv P w K mg base 22 "_law_kind_text" gLK dLK ["kind"] (spTk K 22)) (SK : Gv P w K mg base 23 "show_kind" gSK dSK ["kind"] (spKf K)) (kSK : KBo K dSK ["kind"])
    (GR : Gv P w K mg base 82 "_law_grown" gGR dGR ["well", "book", "costs", "kind", "room"] (spGr K 60)) (IS : GvZ (RoomG 127) P w K mg base "_law_is_shown" gIS dIS ["book", "kind", "value", "by_name"] (spIsS K)) (SM : GvZ (RoomG 1) P w K mg base "_law_same" gSM dSM ["told", "due"] (spSame K)) : FnZ (RoomG 128) P w K mg base f fd ["well"] spRi := by
  refine F.okZ true scRg (fun A z => z.depth) (fun _ A z => z.room.hd) (fun vs H Q E h => ?_) (fun cdv A outer s H vs Q hz0 h => ?_)
  · obtain ⟨wl, rfl, _⟩ := h
    rfl
  obtain ⟨wl, rfl, hw, q⟩ := h
  have hz : ∀ env, RoomG 127 (A.deeper env) := fun env => hz0.deeper env
  refine ⟨_, (pss_cons (ps_set (i := 1) scRg.nd rfl (.inl rfl) (pe_call BK.ok ((hz _).room.mono (by omega)) rfl BK.m BK.k BK.b .nil pass0 (pa_cons (pv 0) pa_nil)))
    (pss_cons (ps_for PassesOwn.never rfl (pi_range1 (by rfl) RN.range (pa_cons (pe_call PT'.ok ((hz _).room.mono (by omega)) rfl PT'.m PT'.k PT'.b .nil pass0 (pa_cons (pv 0) (pa_cons (pe_tup (pa_cons pe_int (pa_cons pe_int (pa_cons pe_int (pa_cons pe_int (pa_cons pe_int (pa_cons pe_int (pa_cons pe_int (pa_cons pe_int pa_nil))))))))) pa_nil))) pa_nil)) (pg_name (i := 2) scRg.nd rfl (.inl rfl)) (pss_one (ps_set (i := 1) scRg.nd rfl (.inl rfl) (pe_call AB.ok ((hz _).room.mono (by omega)) rfl AB.m AB.k AB.b .nil pass0 (pa_cons (pv 1) (pa_cons (pe_call HL.ok ((hz _).room.mono (by omega)) rfl HL.m HL.k HL.b .nil pass0 (pa_cons (pv 0) (pa_cons (pv 1) pa_nil))) pa_nil))))))
    (pss_cons (ps_par (i := 3) (j := 4) rfl scRg.nd rfl rfl (by decide) rfl rfl (pa_cons (pe_call CS.ok ((hz _).room.mono (by omega)) rfl CS.m CS.k CS.b .nil pass0 (pa_cons (pv 1) pa_nil)) (pa_cons (pe_lc (own := [("name", 8), ("kind", 6)]) (g := gTup K 2 (gCons (gName 8) (gCons (gName 6) gNil))) (tt := tYes) (te := tVar 8) rfl scRg.nd (pi_tup (pv 1)) (blkOk_by (own := [("name", 8), ("kind", 6)]) (N := rgS) (sc := defScope sRight) (by decide +kernel)) (fun _ _ _ _ _ => pg_tup rfl (pgs_cons (pg_name (i := 8) scRg.nd rfl (.inl rfl)) (pgs_cons (pg_name (i := 6) scRg.nd rfl (.inl rfl)) pgs_nil))) (fun _ _ _ _ _ => pts_nil) (fun _ _ _ _ _ => (pv 8))) pa_nil)) (by rfl))
    (pss_cons (ps_set (i := 5) scRg.nd rfl (.inl rfl) (pe_call LB.ok ((hz _).room.mono (by omega)) rfl LB.m LB.k LB.b .nil pass0 (pa_cons (pv 1) pa_nil)))
    (pss_cons (ps_if (pt_not (pt_val (pe_callZD SM.ok ((hz _).mono (by omega)) rfl SM.m SM.k SM.b (pa_cons (pe_lst (pa_cons (pe_call SB.ok ((hz _).room.mono (by omega)) rfl SB.m SB.k SB.b .nil pass0 (pa_cons (pv 1) pa_nil)) (pa_cons (pe_callKo SB.ok ((hz _).room.mono (by omega)) rfl SB.m SB.k kSB (pk_cons (pv 1) pk_nil)) (pa_cons (pe_call SB.ok ((hz _).room.mono (by omega)) rfl SB.m SB.k SB.b .nil pass0 (pa_cons (pe_tupN pa_nil) pa_nil)) pa_nil)))) (pa_cons (pe_lst (pa_cons (pv 5) (pa_cons (pv 5) (pa_cons pe_str pa_nil)))) pa_nil))))) (pss_one (ps_ret pe_bl)) pss_nil)
    (pss_cons (ps_for PassesOwn.never rfl (pi_range1 (by rfl) RN.range (pa_cons pe_int pa_nil)) (pg_name (i := 2) scRg.nd rfl (.inl rfl)) (pss_cons (ps_set (i := 6) scRg.nd rfl (.inl rfl) (pe_call KI.ok ((hz _).room.mono (by omega)) rfl KI.m KI.k KI.b .nil pass0 (pa_cons (pv 0) (pa_cons (pv 4) (pa_cons (pe_call PT'.ok ((hz _).room.mono (by omega)) rfl PT'.m PT'.k PT'.b .nil pass0 (pa_cons (pv 0) (pa_cons (pe_tup (pa_cons pe_int (pa_cons pe_int (pa_cons pe_int (pa_cons pe_int (pa_cons pe_int pa_nil)))))) pa_nil))) pa_nil)))))
    (pss_cons (ps_set (i := 5) scRg.nd rfl (.inl rfl) (pe_call LK.ok ((hz _).room.mono (by omega)) rfl LK.m LK.k LK.b .nil pass0 (pa_cons (pv 6) pa_nil)))
    (pss_cons (ps_if (pt_not (pt_val (pe_callZD SM.ok ((hz _).mono (by omega)) rfl SM.m SM.k SM.b (pa_cons (pe_lst (pa_cons (pe_call SK.ok ((hz _).room.mono (by omega)) rfl SK.m SK.k SK.b .nil pass0 (pa_cons (pv 6) pa_nil)) (pa_cons (pe_callKo SK.ok ((hz _).room.mono (by omega)) rfl SK.m SK.k kSK (pk_cons (pv 6) pk_nil)) pa_nil))) (pa_cons (pe_lst (pa_cons (pv 5) (pa_cons (pv 5) pa_nil))) pa_nil))))) (pss_one (ps_ret pe_bl)) pss_nil)
    (pss_cons (ps_if (pt_cmpR op_ge (pe_call CO.ok ((hz _).room.mono (by omega)) rfl CO.m CO.k CO.b .nil pass0 (pa_cons (pv 6) (pa_cons (pv 3) pa_nil))) pe_int (nomark _)) (pss_one (ps_set (i := 6) scRg.nd rfl (.inl rfl) (pe_tupN (pa_cons pe_str (pa_cons (pv 6) (pa_cons (pe_tupN (pa_cons pe_str (pa_cons (pe_tupN (pa_cons pe_str pa_nil)) (pa_cons (pe_tupN (pa_cons pe_str pa_nil)) pa_nil)))) pa_nil)))))) pss_nil)
    (pss_cons (ps_set (i := 7) scRg.nd rfl (.inl rfl) (pe_call GR.ok ((hz _).room.mono (by omega)) rfl GR.m GR.k GR.b .nil pass0 (pa_cons (pv 0) (pa_cons (pv 1) (pa_cons (pv 3) (pa_cons (pv 6) (pa_cons (pe_call PT'.ok ((hz _).room.mono (by omega)) rfl PT'.m PT'.k PT'.b .nil pass0 (pa_cons (pv 0) (pa_cons (pe_tup (pa_cons pe_int (pa_cons pe_int (pa_cons pe_int (pa_cons pe_int (pa_cons pe_int pa_nil)))))) pa_nil))) pa_nil)))))))
    (pss_one (ps_if (pt_not (pt_val (pe_callZD IS.ok (hz _) rfl IS.m IS.k IS.b (pa_cons (pv 1) (pa_cons (pv 6) (pa_cons (pv 7) (pa_cons (pe_cmpR op_eq (pe_call D.ok ((hz _).room.mono (by omega)) rfl D.m D.k D.b .nil pass0 (pa_cons (pv 0) (pa_cons pe_int pa_nil))) pe_int (nomark _)) pa_nil))))))) (pss_one (ps_ret pe_bl)) pss_nil))))))))
    (pss_one (ps_ret pe_bl)))))))), ?_⟩
  have z3 : ∀ {k : Nat}, k ≤ 200 → k ≤ sizeLine := fun h => Nat.le_trans h (by decide)
  have z4 : ∀ {k : Nat}, k ≤ 200 → k < sizeLine := fun h => Nat.lt_of_le_of_lt h (by decide)
  have st : Stt wl (fun _ => none) H := ⟨(fun _ _ h => nomatch h), rfl, hw⟩
  generalize (fun _ => none : Hp) = G at st
  -- the book
  refine ⟨_, rfl, wl, G, rfl, st, fun v5 H5 G5 ns ds g5 D5 b5 => ?_⟩
  have st5 := g5.stt st
  refine ⟨_, rfl, z3 (by show 8 ≤ 200; decide), fun t ht => ⟨wl, t, ([0, 0, 0, 1, 1, 1, 1, 2] : List Int).map V.int, rfl, well_new st5.well ht _, SqT.of upd_same, by decide, by decide, fun u H6 hu w6 e6 => ?_⟩⟩
  obtain ⟨n, hn, rfl⟩ := ints_of hu
  have hn' : 0 ≤ n ∧ n ≤ 2 := by
    simp only [List.mem_cons, List.not_mem_nil, or_false] at hn
    omega
  have e56 := (But.new ht _).trans e6
  have g6 := g5.trans (Gr.stay st5 w6 e56)
  refine ⟨n, rfl, by omega, by omega, ?_⟩
  refine for_range (lo := 0) (n := n.toNat) (fun l σ H' => ∃ G' v ds c2, σ = [some (.ref wl), some v, c2, none, none, none, none, none, none] ∧ Gr wl G H G' H' ∧ Dq K G' v (.tuple ds) ∧ BookL l ds) ⟨G5, v5, ds, none, rfl, g6, D5, bookD_L b5⟩ ?_ ?_
  · rintro l σ H7 hl ⟨G7, v7, ds7, c2, rfl, g7, D7, b7⟩
    have st7 := g7.stt st
    have rP := rowsP_L b7
    have hst : ∀ r ∈ ds7, PyData.strOk (rowN r) = true := fun r m => by
      obtain ⟨y, k, e, ty, _⟩ := b7.rows r m
      subst e
      exact ty.1
    have lz : ds7.length ≤ 1000 := by
      have := b7.few
      have : 2 ^ l ≤ 2 ^ 2 := Nat.pow_le_pow_right (by decide) (by omega)
      omega
    refine ⟨_, rfl, _, rfl, _, rfl, wl, G7, v7, ds7, rfl, st7, D7, rP, lz, hst, fun u H8 G8 h g8 Dh hin => ?_⟩
    obtain ⟨hw', hlk⟩ := hole_of b7 hin
    refine ⟨wl, G8, v7, u, ds7, l, h, rfl, g8.stt st7, g8.dq D7, b7, by omega, Dh, hw', hlk, fun v9 H9 G9 ds9 g9 D9 b9 bh => ?_⟩
    exact ⟨G9, v9, ds9, _, rfl, g7.trans (g8.trans g9), D9, b9⟩
  rintro σ H7 ⟨G7, vB, ds, c2, rfl, g7, DB, bL⟩
  have hj : n.toNat ≤ 2 := by omega
  have st7 := g7.stt st
  have dfew : ds.length ≤ 16 := by
    have := bk_few bL hj
    rw [show (bkOf (.tuple ds)).length = ds.length from List.length_map ..] at this
    exact this
  -- costs and names
  refine ⟨_, rfl, vB, ds, n.toNat, rfl, Dq.mono st7.sub _ _ DB, bL, hj, fun t1 H8 kvs hw8 s8 nt8 ht8 pr8 cof => ?_⟩
  have g8 := Gr.put st7 s8 nt8 ht8
  have st8 := g8.stt st7
  have gt8 : upd G7 t1 (.dK kvs) t1 = some (.dK kvs) := upd_same
  have DB8 := g8.dq DB
  generalize upd G7 t1 (.dK kvs) = G8 at g8 st8 gt8 DB8
  obtain ⟨aL, xs, rfl, hxG, hA⟩ := dq_tuple DB8
  have hxs := st8.sub.seqT hxG (K := K)
  have hl := hA.len
  refine ⟨_, rfl, aL, rfl, ⟨_, hxs⟩, fun nl hnl => ?_⟩
  refine lc_it (walk_tup (xs := xs)) (fun i H2 => Same H8 H2 ∧ H2 nl = some (.lst (((ds.take i).map rowN).map V.str))) ⟨same_new hnl _, upd_same⟩ (fun i H2 _ z => z.1.seqT hxs) ?_ ?_
  · rintro i y H2 _ hi ⟨s2, hL⟩ ⟨rfl, hy⟩
    obtain ⟨e, he, hde⟩ := dqAll_at _ _ _ hA hy
    obtain ⟨y', k', rfl, _⟩ := bL.rows e (List.mem_of_getElem? he)
    obtain ⟨ad, ws, rfl, hw, hB⟩ := dq_tuple hde
    obtain ⟨x0, rs, rfl, g0, hB⟩ := dqAll_cons hB
    obtain ⟨x1, rs, rfl, g1', hB⟩ := dqAll_cons hB
    obtain rfl := dqAll_nil hB
    cases g0
    refine ⟨ad, _, rfl, s2.seqT (st8.sub.seqT hw), rfl, _, _, rfl, _, _, rfl, rfl, rfl, ?_⟩
    simp only [tYes, ↓reduceIte]
    refine ⟨_, rfl, _, hL, ?_, fun b o z => by rw [upd_ne (ne_of_none z hnl)]; exact s2 _ _ z, ?_⟩
    · rw [List.length_map, List.length_map]
      exact z4 (Nat.le_trans (List.length_take_le' _ _) (by omega))
    · rw [upd_same, List.take_add_one, he]
      simp only [Option.toList, List.map_append, List.map_cons, List.map_nil]
      rfl
  rintro H9 ⟨s9, hN9⟩
  rw [hl, List.take_length] at hN9
  have nlw : nl ≠ wl := fun z => by rw [z] at hnl; exact well_ne st8.well hnl
  refine ⟨_, _, rfl, ?_⟩
  have g9 := (g7.trans g8).trans (Gr.same st8 s9)
  have st9 := g9.stt st
  -- the book's text
  have rt := rowsT_of bL hj
  obtain ⟨bo, bl⟩ := bx_ok bL hj
  refine ⟨_, rfl, .ref aL, ds, rfl, Dq.mono st9.sub _ _ DB8, rt, by omega, fun H10 s10 => ?_⟩
  have st10 := (Gr.same st9 s10).stt st9
  have at10 : ∀ {H' : Hp}, Same H10 H' → BookAt K 120 H' (.ref aL) (.tuple ds) := fun s => bookAt_L bL hj (Dq.mono (st10.sub.trans s) _ _ DB8)
  refine ⟨_, rfl, .ref aL, ds, rfl, at10 (Same.refl _), rt, by omega, fun H11 s11 => ?_⟩
  refine ⟨_, rfl, .ref aL, ds, rfl, at10 s11, rt, by omega, fun H12 s12 => ⟨z3 (by show 0 ≤ 200; decide), fun p12 o12 hp12 ho12 => ?_⟩⟩
  have s13 := same_new hp12 (.frz o12 (.tup []))
  have De : Dq K (upd H12 p12 (.frz o12 (.tup []))) (.ref p12) (.tuple []) := .tup (SqP.of upd_same ho12) .nil
  refine ⟨.ref p12, [], rfl, ⟨De, topP_of De, by decide +kernel, by decide +kernel, by decide +kernel⟩, (fun _ m => nomatch m), by decide, fun H14 s14 => ⟨z3 (by show 3 ≤ 200; decide), fun gl hgl => ?_⟩⟩
  have s15 := same_new hgl (.lst [.str (bx ds), .str (bx ds), .str (bx [])])
  have h15 : upd H14 gl (.lst [.str (bx ds), .str (bx ds), .str (bx [])]) gl = some (.lst [.str (bx ds), .str (bx ds), .str (bx [])]) := upd_same
  generalize upd H14 gl (.lst [.str (bx ds), .str (bx ds), .str (bx [])]) = H15 at s15 h15 ⊢
  refine ⟨_, rfl, _, rfl, z3 (by show 3 ≤ 200; decide), fun dl hdl => ?_⟩
  have s16 := same_new hdl (.lst [.str (bx ds), .str (bx ds), .str ""])
  have ok3 := txts_ok (l := [bx ds, bx ds, bx []]) (fun x m => by
    rcases List.mem_cons.mp m with e | m
    · rw [e]; exact bo
    rcases List.mem_cons.mp m with e | m
    · rw [e]; exact bo
    rw [List.mem_singleton.mp m]
    exact fun c m => nomatch m) (by show (bx ds).length + ((bx ds).length + (0 + 0)) + 3 ≤ _; omega)
  refine ⟨gl, dl, [.str (bx ds), .str (bx ds), .str (bx [])], rfl, .lst (SqL.of (s16 _ _ h15)) (.cons (.str _) (.cons (.str _) (.cons (.str _) .nil))), .lst (SqL.of upd_same) (.cons (.str _) (.cons (.str _) (.cons (.str _) .nil))), ok3.1, ok3.2.1, ok3.2.2, ⟨_, rfl, iteF ?_⟩⟩
  have s1016 := s11.trans (s12.trans (s13.trans (s14.trans (s15.trans s16))))
  have hN16 := (s10.trans s1016) _ _ hN9
  have g16 := g9.trans ((Gr.same st9 s10).trans (Gr.same st10 s1016))
  generalize upd H15 dl (.lst [.str (bx ds), .str (bx ds), .str ""]) = H16 at s16 s1016 hN16 g16 ⊢
  clear s16 s15 s14 s13
  refine ⟨5, rfl, by decide, by decide, ?_⟩
  refine for_range (lo := 0) (n := 5) (fun i σ H' => ∃ G' c2 c5 c6 c7, σ = [some (.ref wl), some (.ref aL), c2, some (.ref t1), some (.ref nl), c5, c6, c7, none] ∧ Gr wl G8 H16 G' H' ∧ Gr wl G H G' H') ⟨G8, _, _, _, _, rfl, Gr.refl (g16.stt st), g16⟩ ?_ ?_
  · rintro i σ H17 hi ⟨G17, c2', c5, c6, c7, rfl, g17, gH17⟩
    have st17 := gH17.stt st
    have DB17 := g17.dq DB8
    have gt17 := g17.gg _ _ gt8
    have hN17 := g17.lst nlw hN16
    refine ⟨_, rfl, _, rfl, _, rfl, z3 (by show 5 ≤ 200; decide), fun t ht => ⟨wl, t, ([1, 2, 3, 4, 6] : List Int).map V.int, rfl, well_new st17.well ht _, SqT.of upd_same, by decide, by decide, fun u H18 hu w18 e18 => ?_⟩⟩
    obtain ⟨dp, hdp, rfl⟩ := ints_of hu
    have hdp' : 1 ≤ dp ∧ dp ≤ 6 := by
      simp only [List.mem_cons, List.not_mem_nil, or_false] at hdp
      omega
    obtain ⟨dn, rfl⟩ : ∃ dn : Nat, dp = (dn : Int) := ⟨dp.toNat, by omega⟩
    have e1718 := (But.new ht _).trans e18
    have g18 := Gr.stay st17 w18 e1718
    have st18 := g18.stt st17
    have hN18 := e1718 _ _ nlw hN17
    refine ⟨dn, by omega, wl, nl, G17, ds.map rowN, rfl, st18, hN18, nlw, by rw [List.length_map]; omega, fun x m => ?_, by omega, fun vK H19 G19 e g19 DK gd19 kt19 => ?_⟩
    · obtain ⟨r, mr, rfl⟩ := List.mem_map.mp m
      obtain ⟨y, k, rfl, ty, _⟩ := bL.rows r mr
      exact txt_up ty (by omega)
    have st19 := g19.stt st18
    have tx := gdB_txt (by decide) _ gd19.g
    have kt6 := kt19.up (by omega : dn ≤ 6)
    have fe : FmA ds e := kt_fm bL hj (kt6.up (by decide)) tx
    have ks := kx_sok fe.f fe.st
    have kl := fe.t.len
    refine ⟨_, rfl, vK, e, rfl, Dq.mono st19.sub _ _ DK, fe.t, fun H20 s20 => ?_⟩
    have st20 := (Gr.same st19 s20).stt st19
    refine ⟨_, rfl, vK, ds, e, rfl, Dq.mono st20.sub _ _ DK, fe, fun H21 s21 => ?_⟩
    refine ⟨_, rfl, vK, ds, e, rfl, Dq.mono (st20.sub.trans s21) _ _ DK, fe, fun H22 s22 => ⟨z3 (by show 2 ≤ 200; decide), fun g23 hg23 => ?_⟩⟩
    have s23 := same_new hg23 (.lst [.str (kx 22 e), .str (kx 22 e)])
    have h23 : upd H22 g23 (.lst [.str (kx 22 e), .str (kx 22 e)]) g23 = some (.lst [.str (kx 22 e), .str (kx 22 e)]) := upd_same
    generalize upd H22 g23 (.lst [.str (kx 22 e), .str (kx 22 e)]) = H23 at s23 h23 ⊢
    refine ⟨_, rfl, _, rfl, z3 (by show 2 ≤ 200; decide), fun d24 hd24 => ?_⟩
    have s24 := same_new hd24 (.lst [.str (kx 22 e), .str (kx 22 e)])
    have ok2 := txts_ok (l := [kx 22 e, kx 22 e]) (fun x m => by
      rcases List.mem_cons.mp m with e | m
      · rw [e]; exact ks
      rw [List.mem_singleton.mp m]; exact ks) (by show (kx 22 e).length + ((kx 22 e).length + 0) + 2 ≤ _; omega)
    refine ⟨g23, d24, [.str (kx 22 e), .str (kx 22 e)], rfl, .lst (SqL.of (s24 _ _ h23)) (.cons (.str _) (.cons (.str _) .nil)), .lst (SqL.of upd_same) (.cons (.str _) (.cons (.str _) .nil)), ok2.1, ok2.2.1, ok2.2.2, ⟨_, rfl, iteF ?_⟩⟩
    have s2024 := s21.trans (s22.trans (s23.trans s24))
    have g24 := (g18.trans g19).trans ((Gr.same st19 s20).trans (Gr.same st20 s2024))
    generalize upd H23 d24 (.lst [.str (kx 22 e), .str (kx 22 e)]) = H24 at s24 s2024 g24 ⊢
    have st24 := g24.stt st17
    have DB24 := g24.dq DB17
    have gt24 := g24.gg _ _ gt17
    refine joinVH (S := fun v H' => ∃ G' e', Gr wl G17 H17 G' H' ∧ Dq K G' v e' ∧ FmA ds e' ∧ ct hw8 22 e' < 60) ?fin (fun fin => by
      refine ⟨_, rfl, _, rfl, t1, vK, kvs, hw8, e, rfl, st24.sub _ _ gt24, pr8, Dq.mono st24.sub _ _ DK, fe.f, fun H25 s25 => ⟨_, _, rfl, rfl, _, rfl, ?_⟩⟩
      have g25 := g24.trans (Gr.same st24 s25)
      have st25 := g25.stt st17
      refine ite2 (fun _ => ?_) (fun c => ?_)
      · refine ⟨_, rfl, z3 (by show 1 ≤ 200; decide), fun p1 o1 hp1 ho1 => ?_⟩
        obtain ⟨g26, D26⟩ := Gr.tup (K := K) (vs := [.str "unit"]) (ds := [.str "unit"]) st25 hp1 ho1 (.cons (.str _) .nil)
        have st26 := g26.stt st25
        refine ⟨z3 (by show 1 ≤ 200; decide), fun p2 o2 hp2 ho2 => ?_⟩
        obtain ⟨g27, D27⟩ := Gr.tup (K := K) (vs := [.str "thing"]) (ds := [.str "thing"]) st26 hp2 ho2 (.cons (.str _) .nil)
        have st27 := g27.stt st26
        refine ⟨z3 (by show 3 ≤ 200; decide), fun p3 o3 hp3 ho3 => ?_⟩
        obtain ⟨g28, D28⟩ := Gr.tup (K := K) (vs := [.str "pair", .ref p1, .ref p2]) (ds := [.str "pair", .tuple [.str "unit"], .tuple [.str "thing"]]) st27 hp3 ho3 (.cons (.str _) (.cons (g27.dq D26) (.cons D27 .nil)))
        have st28 := g28.stt st27
        refine ⟨z3 (by show 3 ≤ 200; decide), fun p4 o4 hp4 ho4 => ?_⟩
        obtain ⟨g29, D29⟩ := Gr.tup (K := K) (vs := [.str "either", vK, .ref p3]) (ds := [.str "either", e, .tuple [.str "pair", .tuple [.str "unit"], .tuple [.str "thing"]]]) st28 hp4 ho4 (.cons (.str _) (.cons (g28.dq (g27.dq (g26.dq DK))) (.cons D28 .nil)))
        have gg := g25.trans (g26.trans (g27.trans (g28.trans g29)))
        generalize V.ref p4 = vv at D29 ⊢
        have fe' : FmA ds (.tuple [.str "either", e, .tuple [.str "pair", .tuple [.str "unit"], .tuple [.str "thing"]]]) := kt_fm bL hj (either_kt kt6) (by
          show (txtB (.str "either") && (txtB e && (txtB (.tuple [.str "pair", .tuple [.str "unit"], .tuple [.str "thing"]]) && true))) = true
          rw [tx]
          decide +kernel)
        have gg' := gg
        generalize upd (upd (upd (upd H25 p1 (.frz o1 (.tup [.str "unit"]))) p2 (.frz o2 (.tup [.str "thing"]))) p3 (.frz o3 (.tup [.str "pair", .ref p1, .ref p2]))) p4 (.frz o4 (.tup [.str "either", vK, .ref p3])) = Hx at gg' ⊢
        exact fin vv Hx ⟨_, _, gg', D29, fe', either_ct hw8 e⟩
      · have c' : ¬ (ct hw8 22 e ≥ 60) := fun z => c (decide_eq_true z)
        exact fin vK H25 ⟨_, e, g25, DK, fe, by omega⟩)
    rintro vX H25 ⟨G25, e', g25, DX, fe', cl⟩
    have st25 := g25.stt st17
    refine ⟨_, rfl, _, rfl, _, rfl, _, rfl, _, rfl, z3 (by show 5 ≤ 200; decide), fun t3 ht3 => ⟨wl, t3, ([3, 9, 17, 30, 50] : List Int).map V.int, rfl, well_new st25.well ht3 _, SqT.of upd_same, by decide, by decide, fun u H26 hu w26 e26 => ?_⟩⟩
    obtain ⟨rm, hrm, rfl⟩ := ints_of hu
    have hrm' : 3 ≤ rm ∧ rm ≤ 50 := by
      simp only [List.mem_cons, List.not_mem_nil, or_false] at hrm
      omega
    have g26 := g25.trans (Gr.stay st25 w26 ((But.new ht3 _).trans e26))
    have st26 := g26.stt st17
    have sz : szI rm (ct hw8 22 e') ≤ 60 := by
      unfold szI
      split <;> omega
    refine ⟨wl, t1, .ref aL, vX, rm, G25, ds, n.toNat, kvs, hw8, e', rfl, st26, g25.dq DB17, bL, hj, g25.gg _ _ gt17, pr8, cof, DX, fe', Int.lt_trans cl (by decide), sz, by omega, fun vD H27 G27 d g27 DD val => ?_⟩
    have g27' := g26.trans g27
    have st27 := g27'.stt st17
    refine ⟨_, rfl, _, rfl, _, rfl, _, rfl, wl, 2, rfl, by decide, by decide, st27.well, fun b0 H28 _ _ w28 e28 => ⟨rfl, ?_⟩⟩
    have g28 := g27'.trans (Gr.stay st27 w28 e28)
    have st28 := g28.stt st17
    refine ⟨.ref aL, vX, vD, _, ds, n.toNat, e', d, szI rm (ct hw8 22 e'), rfl, Dq.mono st28.sub _ _ (g28.dq DB17), bL, hj, Dq.mono st28.sub _ _ (g27.dq DX), fe', Dq.mono st28.sub _ _ DD, val, sz, fun H29 s29 => ⟨_, rfl, iteF ?_⟩⟩
    have g29 := g28.trans (Gr.same st28 s29)
    exact ⟨_, _, _, _, _, rfl, g17.trans g29, gH17.trans g29⟩
  · rintro σ H17 ⟨G17, c2', c5, c6, c7, rfl, g17, gH17⟩
    exact q H17 gH17.but
end
end Toy
set_option Elab.async false
set_option linter.all false
set_option maxRecDepth 100000
set_option maxHeartbeats 4000000
namespace Toy
open PySem L2
abbrev sLaw : Stmt := top 82
def spLaw (K : PySem.W.Frag) : Sp := fun vs H Q _ => ∃ (a : Addr) (ns : List Int), vs = [.ref a] ∧ SqL K H a (ns.map V.int) ∧ ns.length ≤ 63 ∧ ∀ H', Q (.bl true) H'
structure Nl (mg : Str → Option Value) : Prop where
  all : mg "all" = none
  max : mg "max" = none
  min : mg "min" = none
theorem all_true : ∀ n : Nat, (List.replicate n true).all id = true
  | 0 => rfl
  | n + 1 => by rw [List.replicate_succ, List.all_cons, all_true n]; rfl
section
variable {P : Program} {w : World} {K : PySem.W.Frag} {mg : Str → Option Value} {base : Heap}
theorem scL : FnScope ["script", "turn"] ["script"] (defScope sLaw) := ⟨rfl, rfl, rfl, by decide +kernel, rfl, by decide +kernel, by decide +kernel⟩
theorem ok_law {f fW fR : Addr} {fd dW dR : FuncData} (F : Fun K "law" "law" sLaw f fd) (N : Nm mg) (B : Nr mg) (L : Nl mg) (WL : Gv P w K mg base 1 "_law_well" fW dW ["script", "turn"] (spWell K)) (RG : GvZ (RoomG 128) P w K mg base "_law_right" fR dR ["well"] spRi) :
    FnZ (RoomG 129) P w K mg base f fd ["script"] (spLaw K) := by
  refine F.okZ true scL (fun A z => z.depth) (fun _ A z => z.room.hd) (fun vs H Q E h => ?_) (fun cdv A outer s H vs Q hz0 h => ?_)
  · obtain ⟨a, ns, rfl, _⟩ := h
    rfl
  obtain ⟨a, ns, rfl, hS, h63, q⟩ := h
  have hz : ∀ env, RoomG 128 (A.deeper env) := fun env => hz0.deeper env
  refine ⟨_, pss_one (ps_ret (pe_callB (cr_all rfl) rfl L.all (by decide +kernel) (pa_cons
    (pe_lc (own := [("turn", 1)]) (g := gName 1) (tt := tYes) rfl scL.nd (pi_range1 (by rfl) B.range (pa_cons (pe_callB (call_max2 rfl) rfl L.max (by decide +kernel) (pa_cons pe_int (pa_cons (pe_callB (call_min2 rfl) rfl L.min (by decide +kernel) (pa_cons (pe_callB call_len_seq rfl N.len PySem.boot_len (pa_cons (pv 0) pa_nil)) (pa_cons pe_int pa_nil))) pa_nil))) pa_nil))
      (blkOk_by (own := [("turn", 1)]) (N := ["script", "turn"]) (sc := defScope sLaw) (by decide +kernel))
      (fun _ _ _ _ _ => pg_name (i := 1) scL.nd rfl (.inl rfl)) (fun _ _ _ _ _ => pts_nil)
      (fun _ _ _ _ _ => pe_callZD RG.ok (hz _) rfl RG.m RG.k RG.b (pa_cons (pe_call WL.ok ((hz _).room.mono (by omega)) rfl WL.m WL.k WL.b .nil pass0 (pa_cons (pv 0) (pa_cons (pv 1) pa_nil))) pa_nil))) pa_nil))), ?_⟩
  refine ⟨_, rfl, a, _, rfl, .inl hS, _, _, rfl, _, _, rfl, ?_⟩
  have hm : ∃ m : Nat, m ≤ 2 ∧ (if (if (2 : Int) < ((ns.map V.int).length : Nat) then (2 : Int) else ((ns.map V.int).length : Nat)) > 1 then (if (2 : Int) < ((ns.map V.int).length : Nat) then (2 : Int) else ((ns.map V.int).length : Nat)) else 1) = (m : Int) := by
    generalize ((ns.map V.int).length : Nat) = l
    refine ⟨(if (if (2 : Int) < (l : Nat) then (2 : Int) else (l : Nat)) > 1 then (if (2 : Int) < (l : Nat) then (2 : Int) else (l : Nat)) else 1).toNat, ?_, ?_⟩
    · split <;> (try split) <;> omega
    · split <;> (try split) <;> omega
  obtain ⟨m, h2, em⟩ := hm
  refine ⟨m, by rw [em], by omega, by omega, fun D nD => ?_⟩
  rw [Int.toNat_natCast]
  refine lc_range (lo := 0) (n := m) (fun i H2 => Same H H2 ∧ H2 D = some (.lst ((List.replicate i true).map V.bl))) ⟨same_new nD _, upd_same⟩ ?_ ?_
  · rintro i H2 hi ⟨s2, hD⟩
    refine ⟨rfl, ?_⟩
    simp only [tYes, ↓reduceIte]
    refine ⟨_, rfl, _, rfl, a, ns, 0 + (i : Int), rfl, s2.seq hS, h63, by omega, by omega, fun p H3 s3 hp hw => ⟨p, rfl, hw, fun H4 e4 => ?_⟩⟩
    have hD4 : H4 D = some (.lst ((List.replicate i true).map V.bl)) := e4 D _ (fun z => by rw [← z, hD] at hp; cases hp) (s3 _ _ hD)
    have s4 : Same H H4 := fun b o e => e4 b o (fun z => by rw [← z, s2 _ _ e] at hp; cases hp) (s3 _ _ (s2 _ _ e))
    refine ⟨_, hD4, by rw [List.length_map, List.length_replicate]; exact Nat.lt_of_lt_of_le hi (Nat.le_trans h2 (by decide)), fun b o e => by rw [upd_ne (ne_of_none e nD)]; exact s4 b o e, ?_⟩
    rw [upd_same, List.replicate_succ', List.map_append]
    rfl
  · rintro H2 ⟨s2, hD⟩
    refine ⟨D, _, rfl, SqL.of hD, ?_⟩
    rw [all_true]
    exact q H2
end
open PySem PySem.W PySem.ErrX L2
/-! ### what the top has left -/
structure One (main : Module) (K : PySem.W.Frag) (x : Str) (C : Addr) (f : Str) : Prop where
  a : nsIn K mainGlobals x = some (some (.ref C))
  t : ∃ fI pa pb txt p, ErrTxt main K C fI (ps1 f pa pb) (bd1 f txt p) ∧ SupEq txt (p 0) (p 1) (p 2) (p 3) (p 4)
  n : findIn K (.ref C) f = some none
section
variable {main : Module} {K : PySem.W.Frag} {x f g txt : Str} {C fI N : Addr} {pa pb pc : Pos} {p : Nat → Pos} {nm q : Str} {bs bm : List Value} {sn : List Str} {sub : List Value} {ab : Bool} {col : Option Bool} {dd : Option Addr} {k0 k1 k2 k3 k5 : Option Value}
  {oc cl ccl : Value} {od cld cdd : Option Addr} {doc pm : Value} {an : Option Addr} {ct : Value} {osl csl ccs : Array (Option Value)} {cc cda : Addr} {qual : Str} {vs : Array Value} {file : Str} {tf : Tok}
theorem one_mk (a : nsIn K mainGlobals x = some (some (.ref C))) (xL : K.lookup C = some (excClassObj nm q C N bs bm true sn sub ab col dd k0 k1 k2 k3 k5 "ValueError.__new__")) (hb : PySem.HandSPX.refsVE bm = true)
    (sa : findIn K (.ref C) "__setattr__" = some (some (.builtin "object.__setattr__"))) (iC : findIn K (.ref C) "__init__" = some (some (.ref fI))) (tC : typeIn K (.ref fI) = some (.type "function")) (kC : keepIn K (.ref C) = true)
    (sb : mroIn K C (.ref C) = some true) (sV : subIn K (.ref C) (.type "ValueError") = some true) (su : ks_superIn K C C "__init__" = some (some (.builtin "ValueError.__init__"))) (tp : nsIn K cStatics "thirdparty.any" = some none) (sp : nsIn K mainGlobals "super" = some none)
    (l1 : K.lookup fI = some ⟨oc, od, .func (ksFn "__init__" qual (eA (ps1 f pa pb)) (bd1 f txt p) (eScope (pN (ps1 f pa pb))) .none .none doc pm an (.ref cda) ct cc), osl⟩) (c1 : codeIn K (.ref cda) qual = true)
    (l2 : K.lookup cc = some ⟨cl, cld, .cell (some (.ref C)), csl⟩) (l3 : K.lookup cda = some ⟨ccl, cdd, .fields vs, ccs⟩) (n : findIn K (.ref C) f = some none) (v2 : vs[2]? = some (.str file tf)) (mf : ((main.file : Str) == file) = true)
    (top : (main.scope.names.lookup ("super" : Str)).isSome = false) (se : SupEq txt (p 0) (p 1) (p 2) (p 3) (p 4)) : One main K x C f :=
  ⟨a, ⟨fI, pa, pb, txt, p, ⟨⟨nm, q, N, bs, bm, sn, sub, ab, col, dd, k0, k1, k2, k3, k5, xL, hb⟩, sa, iC, tC, kC, sb, sV, su, tp, sp, top, ⟨oc, cl, ccl, od, cld, cdd, doc, pm, an, ct, osl, csl, ccs, cc, cda, qual, vs, file, tf, l1, c1, l2, l3, v2, mf⟩⟩, se⟩, n⟩
end
theorem One.mk1 {P : Program} {w : World} {K : PySem.W.Frag} {mg : Str → Option Value} {base : Heap} {x : Str} {C : Addr} {f : Str} (O : One P.main K x C f) (FO : FldOk f) : Mkr P w K mg base C 1 [] (fun vs => match vs with | [x] => [(f, x)] | _ => []) := by
  obtain ⟨fI, pa, pb, txt, p, T, se⟩ := O.t
  exact mkr1 T FO O.n se
/-- a tuple of one text at the top -/
theorem top_one {K : PySem.W.Frag} {a : Addr} {x : Str} {t : Tok} {n : Nat} {sl : Array (Option Value)} (l : K.lookup a = some ⟨.type "tuple", none, .seq #[.str x t] n, sl⟩) (H : Hp) : Dq K H (.ref a) (.tuple [.str x]) :=
  .tup (.inr ⟨_, #[.str x t], n, l, rfl, rfl, rfl, by show 1 ≤ sizeLine; decide, .cons (show RelV (.str x) (.str x t) from ⟨t, rfl⟩) .nil⟩) (.cons (.str x) .nil)
structure DefK (K : PySem.W.Frag) (x : Str) (st : Stmt) (f : Addr) (fd : FuncData) : Prop where
  a : nsIn K mainGlobals x = some (some (.ref f))
  F : Fun K x x st f fd
theorem def_mk {K : PySem.W.Frag} {x : Str} {st : Stmt} {f : Addr} {od an : Option Addr} {sl : Array (Option Value)} {oc kV dc pm cd ct : Value} (a : nsIn K mainGlobals x = some (some (.ref f)))
    (l : K.lookup f = some ⟨oc, od, .func (fnOf x x (defArgs st) (defBody st) (defScope st) .none kV dc pm an cd ct), sl⟩) (c : codeIn K cd x = true) (k : keepIn K (.ref f) = true) : DefK K x st f (fnOf x x (defArgs st) (defBody st) (defScope st) .none kV dc pm an cd ct) := ⟨a, fun_mk l c k⟩
theorem fnOk_ex {P : Program} {w : World} {K : PySem.W.Frag} {mg : Str → Option Value} {base : Heap} {CX : CXT} {k m : Nat} {f : Addr} {fd : FuncData} {ps : List Str} {sp : Nat → Sp} (F : ∀ n, n ≤ m → FnOk P w K mg base CX k f fd ps (sp n)) : FnOk P w K mg base CX k f fd ps (fun vs H Q E => ∃ n, n ≤ m ∧ sp n vs H Q E) :=
  ⟨fun vs H Q E ⟨n, h, z⟩ => (F n h).len vs H Q E z, fun A outer s H args us vs Q E hr he hb hv ⟨n, h, z⟩ => (F n h).run A outer s H args us vs Q E hr he hb hv z⟩
def names0 : List Str := ["int", "len", "abs", "divmod", "repr", "all", "type", "str", "isinstance", "tuple", "max", "sorted", "range", "bool", "list", "min", "enumerate", "dict"]
def noneB (K : PySem.W.Frag) : Bool := names0.all fun x => decide (nsIn K mainGlobals x = some none)
section
variable {P : Program} {w : World} {K : PySem.W.Frag} {h : Heap} {mg : Str → Option Value} {fa : Addr}
theorem all_mk {fL aC aTh aNo aUn : Addr} {aInm aIwr aIki aNam aFou aAmo aNmM aMaO aKiM aHoM aPaM aTab aChP aPAb aByR aChK aIKn aKnH aWhN aEmp aHKi aUnf aPwi aROf aWell aDraw aPick aSame aWrit aKin aCall aMadB aAllB aNams aBody aBook aHole aKiOf aCost aCsts aNumb aGrow aBare aBlan aKSi aTaF aChV aChS aShK aShB aShV aShS aTeK aTeV aShN aLKT aLBS aLVT aIsS aRigh : Addr} {dInm dIwr dIki dNam dFou dAmo dNmM dMaO dKiM dHoM dPaM dTab dChP dPAb dByR dChK dIKn dKnH dWhN dEmp dHKi dUnf dPwi dROf dWell dDraw dPick dSame dWrit dKin dCall dMadB dAllB dNams dBody dBook dHole dKiOf dCost dCsts dNumb dGrow dBare dBlan dKSi dTaF dChV dChS dShK dShB dShV dShS dTeK dTeV dShN dLKT dLBS dLVT dIsS dRigh : FuncData} {od an : Option Addr} {sl slT slN slU : Array (Option Value)} {oc kV dc pm cd ct : Value} {t1 t2 t3 t4 t5 t6 t7 tT tN tU : Tok} {nT nN nU : Nat} (X : K.In h) (G : h.Ns mainGlobals mg) (hfa : mg "law" = some (.ref fa))
    (DInm : DefK K "is_name" sIsName aInm dInm)
    (DIwr : DefK K "is_written" sIsWr aIwr dIwr)
    (DIki : DefK K "is_kind" sIsKind aIki dIki)
    (DNam : DefK K "names_among" sNmAm aNam dNam)
    (DFou : DefK K "parts_found" sFound aFou dFou)
    (DAmo : DefK K "kinds_among" sAmong aAmo dAmo)
    (DNmM : DefK K "name_made" sNmMd aNmM dNmM)
    (DMaO : DefK K "made_of" sMadeOf aMaO dMaO)
    (DKiM : DefK K "kind_made" sKinM aKiM dKiM)
    (DHoM : DefK K "hole_made" sHolM aHoM dHoM)
    (DPaM : DefK K "pair_made" sPaiM aPaM dPaM)
    (DTab : DefK K "table_of" sTable aTab dTab)
    (DChP : DefK K "check_pairs" sChkP aChP dChP)
    (DPAb : DefK K "is_pair_above" sPairAb aPAb dPAb)
    (DByR : DefK K "is_made_by_rules" sByRules aByR dByR)
    (DChK : DefK K "check_kind" sChkK aChK dChK)
    (DIKn : DefK K "is_known" sIsKnown aIKn dIKn)
    (DKnH : DefK K "is_known_hole" sKnHole aKnH dKnH)
    (DWhN : DefK K "is_whole_number" sWhN aWhN dWhN)
    (DEmp : DefK K "is_empty" sEmp aEmp dEmp)
    (DHKi : DefK K "has_kind" sHk aHKi dHKi)
    (DUnf : DefK K "unfolded" sUnf aUnf dUnf)
    (DPwi : DefK K "parts_within" sPwi aPwi dPwi)
    (DROf : DefK K "is_row_of" sRowOf aROf dROf)
    (DWell : DefK K "_law_well" sWell aWell dWell)
    (DDraw : DefK K "_law_draw" sDraw aDraw dDraw)
    (DPick : DefK K "_law_pick" sPick aPick dPick)
    (DSame : DefK K "_law_same" sSame aSame dSame)
    (DWrit : DefK K "_law_written" sWrit aWrit dWrit)
    (DKin : DefK K "_law_kind" sKind aKin dKin)
    (DCall : DefK K "_law_called" sClld aCall dCall)
    (DMadB : DefK K "_law_made_by" sMadeBy aMadB dMadB)
    (DAllB : DefK K "_law_all_by" sAllBy aAllB dAllB)
    (DNams : DefK K "_law_names" sNamesL aNams dNams)
    (DBody : DefK K "_law_body" sBody aBody dBody)
    (DBook : DefK K "_law_book" sBook aBook dBook)
    (DHole : DefK K "_law_hole" sHole aHole dHole)
    (DKiOf : DefK K "_law_kind_of" sKindOf aKiOf dKiOf)
    (DCost : DefK K "_law_cost" sCo aCost dCost)
    (DCsts : DefK K "_law_costs" sCs aCsts dCsts)
    (DNumb : DefK K "_law_number" sNu aNumb dNumb)
    (DGrow : DefK K "_law_grown" sGr aGrow dGrow)
    (DBare : DefK K "_law_bare" sBr aBare dBare)
    (DBlan : DefK K "_law_blank" sBl aBlan dBlan)
    (DKSi : DefK K "kind_on_side" sKs aKSi dKSi)
    (DTaF : DefK K "table_for" sTabFor aTaF dTaF)
    (DChV : DefK K "check_value" sCv aChV dChV)
    (DChS : DefK K "check_shape" sChS aChS dChS)
    (DShK : DefK K "show_kind" sSk aShK dShK)
    (DShB : DefK K "show_book" sSb aShB dShB)
    (DShV : DefK K "show_value" sSv aShV dShV)
    (DShS : DefK K "show_shape" sSs aShS dShS)
    (DTeK : DefK K "text_of_kind" sTk aTeK dTeK)
    (DTeV : DefK K "text_of_value" sTv aTeV dTeV)
    (DShN : DefK K "shown_next" sNx aShN dShN)
    (DLKT : DefK K "_law_kind_text" sLk aLKT dLKT)
    (DLBS : DefK K "_law_book_shown" sLb aLBS dLBS)
    (DLVT : DefK K "_law_value_text" sVt aLVT dLVT)
    (DIsS : DefK K "_law_is_shown" sIs aIsS dIsS)
    (DRigh : DefK K "_law_right" sRight aRigh dRigh)
    (C1 : nsIn K mainGlobals "CAPITALS" = some (some (.str "ABCDEFGHIJKLMNOPQRSTUVWXYZ" t1))) (C2 : nsIn K mainGlobals "SMALL" = some (some (.str "abcdefghijklmnopqrstuvwxyz0123456789" t2))) (C3 : nsIn K mainGlobals "LONGEST_WRITTEN" = some (some (.int 8 t3))) (C4 : nsIn K mainGlobals "LONGEST_NAME" = some (some (.int 60 t4)))
    (C5 : nsIn K mainGlobals "DEEPEST" = some (some (.int 30 t5))) (C6 : nsIn K mainGlobals "MOST_PARTS" = some (some (.int 2000 t6))) (C7 : nsIn K mainGlobals "MOST_NAMES" = some (some (.int 80 t7)))
    (hT : nsIn K mainGlobals "THING" = some (some (.ref aTh))) (lT : K.lookup aTh = some ⟨.type "tuple", none, .seq #[.str "thing" tT] nT, slT⟩) (hN : nsIn K mainGlobals "NONE" = some (some (.ref aNo))) (lN : K.lookup aNo = some ⟨.type "tuple", none, .seq #[.str "none" tN] nN, slN⟩)
    (hU : nsIn K mainGlobals "UNIT" = some (some (.ref aUn))) (lU : K.lookup aUn = some ⟨.type "tuple", none, .seq #[.str "unit" tU] nU, slU⟩)
    (E1 : One P.main K "InvalidBook" aC "index") (cb : subIn K (.ref aC) (.type "BaseException") = some true) (ct' : typeIn K (.ref aC) = some (.type "type")) (ck : keepIn K (.ref aC) = true) (cx : exmOne K (.ref aC) (.ref aC) = some true)
    (aL : nsIn K mainGlobals "law" = some (some (.ref fL))) (lL : K.lookup fL = some ⟨oc, od, .func (fnOf "law" "law" (defArgs sLaw) (defBody sLaw) (defScope sLaw) .none kV dc pm an cd ct), sl⟩) (cL : codeIn K cd "law" = true) (kL : keepIn K (.ref fL) = true) (b0 : noneB K = true) :
    ∃ fd : FuncData, (∀ (s : Shared) (u : Value), BindsTo s fd ⟨[u], []⟩ [("script", u)]) ∧ ∀ base : Heap, K.In base → base.Ns mainGlobals mg → FnZ (RoomG 129) P w K mg base fa fd ["script"] (spLaw K) := by
  have e := hfa.symm.trans (mg_of X G aL)
  cases e
  have no : ∀ x, x ∈ names0 → mg x = none := fun x hx => mg_none_of X G (of_decide_eq_true (List.all_eq_true.mp b0 x hx))
  have N : Nm mg := ⟨no _ (by simp [names0]), no _ (by simp [names0]), no _ (by simp [names0]), no _ (by simp [names0]), no _ (by simp [names0])⟩
  have T : Nk mg := ⟨⟨t1, mg_of X G C1⟩, ⟨t2, mg_of X G C2⟩, ⟨t3, mg_of X G C3⟩, ⟨t4, mg_of X G C4⟩, no _ (by simp [names0]), no _ (by simp [names0])⟩
  have U : Nt mg := ⟨no _ (by simp [names0]), no _ (by simp [names0]), no _ (by simp [names0])⟩
  have Tu : Nu mg := ⟨no _ (by simp [names0])⟩
  have Pp : Np mg := ⟨⟨t5, mg_of X G C5⟩, ⟨t6, mg_of X G C6⟩⟩
  have Mx : Nx mg := ⟨no _ (by simp [names0])⟩
  have R : Nr mg := ⟨no _ (by simp [names0])⟩
  have L : Nl mg := ⟨no _ (by simp [names0]), no _ (by simp [names0]), no _ (by simp [names0])⟩
  have V' : Nv mg := ⟨⟨t7, mg_of X G C7⟩, no _ (by simp [names0]), no _ (by simp [names0])⟩
  have NC : Nc K mg := ⟨⟨aTh, mg_of X G hT, top_one lT⟩, ⟨aNo, mg_of X G hN, top_one lN⟩, ⟨aUn, mg_of X G hU, top_one lU⟩⟩
  have TU : mg "tuple" = none := no _ (by simp [names0])
  have SG : mg "sorted" = none := no _ (by simp [names0])
  have MI : mg "min" = none := no _ (by simp [names0])
  have MX : mg "max" = none := no _ (by simp [names0])
  have INT : mg "int" = none := no _ (by simp [names0])
  have bInm : Binds K dInm ["value"] [] := DInm.F.binds (ps := ["value"]) fun _ _ _ _ _ _ us hl => match us, hl with | [_], _ => rfl
  have bIwr : Binds K dIwr ["text"] [] := DIwr.F.binds (ps := ["text"]) fun _ _ _ _ _ _ us hl => match us, hl with | [_], _ => rfl
  have bIki : Binds K dIki ["value"] [] := DIki.F.binds (ps := ["value"]) fun _ _ _ _ _ _ us hl => match us, hl with | [_], _ => rfl
  have bNam : Binds K dNam ["parts"] [] := DNam.F.binds (ps := ["parts"]) fun _ _ _ _ _ _ us hl => match us, hl with | [_], _ => rfl
  have bFou : Binds K dFou ["value"] [] := DFou.F.binds (ps := ["value"]) fun _ _ _ _ _ _ us hl => match us, hl with | [_], _ => rfl
  have bAmo : Binds K dAmo ["part"] [] := DAmo.F.binds (ps := ["part"]) fun _ _ _ _ _ _ us hl => match us, hl with | [_], _ => rfl
  have bNmM : Binds K dNmM ["name", "hole"] [] := DNmM.F.binds (ps := ["name", "hole"]) fun _ _ _ _ _ _ us hl => match us, hl with | [_, _], _ => rfl
  have bMaO : Binds K dMaO ["name"] [] := DMaO.F.binds (ps := ["name"]) fun _ _ _ _ _ _ us hl => match us, hl with | [_], _ => rfl
  have bKiM : Binds K dKiM ["kind", "hole"] [] := DKiM.F.binds (ps := ["kind", "hole"]) fun _ _ _ _ _ _ us hl => match us, hl with | [_, _], _ => rfl
  have bHoM : Binds K dHoM ["hole"] [] := DHoM.F.binds (ps := ["hole"]) fun _ _ _ _ _ _ us hl => match us, hl with | [_], _ => rfl
  have bPaM : Binds K dPaM ["first", "second", "hole"] [] := DPaM.F.binds (ps := ["first", "second", "hole"]) fun _ _ _ _ _ _ us hl => match us, hl with | [_, _, _], _ => rfl
  have bTab : Binds K dTab ["book"] [] := DTab.F.binds (ps := ["book"]) fun _ _ _ _ _ _ us hl => match us, hl with | [_], _ => rfl
  have bChP : Binds K dChP ["book"] [] := DChP.F.binds (ps := ["book"]) fun _ _ _ _ _ _ us hl => match us, hl with | [_], _ => rfl
  have bPAb : Binds K dPAb ["ahead", "row"] [] := DPAb.F.binds (ps := ["ahead", "row"]) fun _ _ _ _ _ _ us hl => match us, hl with | [_, _], _ => rfl
  have bByR : Binds K dByR ["table", "name"] [] := DByR.F.binds (ps := ["table", "name"]) fun _ _ _ _ _ _ us hl => match us, hl with | [_, _], _ => rfl
  have bChK : Binds K dChK ["table", "kind"] [] := DChK.F.binds (ps := ["table", "kind"]) fun _ _ _ _ _ _ us hl => match us, hl with | [_, _], _ => rfl
  have bIKn : Binds K dIKn ["table", "value"] [] := DIKn.F.binds (ps := ["table", "value"]) fun _ _ _ _ _ _ us hl => match us, hl with | [_, _], _ => rfl
  have bKnH : Binds K dKnH ["table", "value"] [] := DKnH.F.binds (ps := ["table", "value"]) fun _ _ _ _ _ _ us hl => match us, hl with | [_, _], _ => rfl
  have bWhN : Binds K dWhN ["value"] [] := DWhN.F.binds (ps := ["value"]) fun _ _ _ _ _ _ us hl => match us, hl with | [_], _ => rfl
  have bEmp : Binds K dEmp ["value"] [] := DEmp.F.binds (ps := ["value"]) fun _ _ _ _ _ _ us hl => match us, hl with | [_], _ => rfl
  have bHKi : Binds K dHKi ["table", "kind", "value", "is_thing"] [] := DHKi.F.binds (ps := ["table", "kind", "value", "is_thing"]) fun _ _ _ _ _ _ us hl => match us, hl with | [_, _, _, _], _ => rfl
  have bUnf : Binds K dUnf ["table", "kind"] [] := DUnf.F.binds (ps := ["table", "kind"]) fun _ _ _ _ _ _ us hl => match us, hl with | [_, _], _ => rfl
  have bPwi : Binds K dPwi ["kind", "value", "is_thing"] [] := DPwi.F.binds (ps := ["kind", "value", "is_thing"]) fun _ _ _ _ _ _ us hl => match us, hl with | [_, _, _], _ => rfl
  have bROf : Binds K dROf ["word", "many", "row"] [] := DROf.F.binds (ps := ["word", "many", "row"]) fun _ _ _ _ _ _ us hl => match us, hl with | [_, _, _], _ => rfl
  have bWell : Binds K dWell ["script", "turn"] [] := DWell.F.binds (ps := ["script", "turn"]) fun _ _ _ _ _ _ us hl => match us, hl with | [_, _], _ => rfl
  have bDraw : Binds K dDraw ["well", "many"] [] := DDraw.F.binds (ps := ["well", "many"]) fun _ _ _ _ _ _ us hl => match us, hl with | [_, _], _ => rfl
  have bPick : Binds K dPick ["well", "some"] [] := DPick.F.binds (ps := ["well", "some"]) fun _ _ _ _ _ _ us hl => match us, hl with | [_, _], _ => rfl
  have bSame : Binds K dSame ["told", "due"] [] := DSame.F.binds (ps := ["told", "due"]) fun _ _ _ _ _ _ us hl => match us, hl with | [_, _], _ => rfl
  have bWrit : Binds K dWrit ["well"] [] := DWrit.F.binds (ps := ["well"]) fun _ _ _ _ _ _ us hl => match us, hl with | [_], _ => rfl
  have bKin : Binds K dKin ["well", "names", "deep"] [] := DKin.F.binds (ps := ["well", "names", "deep"]) fun _ _ _ _ _ _ us hl => match us, hl with | [_, _, _], _ => rfl
  have bCall : Binds K dCall ["name", "hole"] [] := DCall.F.binds (ps := ["name", "hole"]) fun _ _ _ _ _ _ us hl => match us, hl with | [_, _], _ => rfl
  have bMadB : Binds K dMadB ["kind", "hole"] [] := DMadB.F.binds (ps := ["kind", "hole"]) fun _ _ _ _ _ _ us hl => match us, hl with | [_, _], _ => rfl
  have bAllB : Binds K dAllB ["book", "hole"] [] := DAllB.F.binds (ps := ["book", "hole"]) fun _ _ _ _ _ _ us hl => match us, hl with | [_, _], _ => rfl
  have bNams : Binds K dNams ["well", "many"] [] := DNams.F.binds (ps := ["well", "many"]) fun _ _ _ _ _ _ us hl => match us, hl with | [_, _], _ => rfl
  have bBody : Binds K dBody ["well", "names"] [] := DBody.F.binds (ps := ["well", "names"]) fun _ _ _ _ _ _ us hl => match us, hl with | [_, _], _ => rfl
  have bBook : Binds K dBook ["well"] [] := DBook.F.binds (ps := ["well"]) fun _ _ _ _ _ _ us hl => match us, hl with | [_], _ => rfl
  have bHole : Binds K dHole ["well", "book"] [] := DHole.F.binds (ps := ["well", "book"]) fun _ _ _ _ _ _ us hl => match us, hl with | [_, _], _ => rfl
  have bKiOf : Binds K dKiOf ["book", "name"] [] := DKiOf.F.binds (ps := ["book", "name"]) fun _ _ _ _ _ _ us hl => match us, hl with | [_, _], _ => rfl
  have bCost : Binds K dCost ["kind", "costs"] [] := DCost.F.binds (ps := ["kind", "costs"]) fun _ _ _ _ _ _ us hl => match us, hl with | [_, _], _ => rfl
  have bCsts : Binds K dCsts ["book"] [] := DCsts.F.binds (ps := ["book"]) fun _ _ _ _ _ _ us hl => match us, hl with | [_], _ => rfl
  have bNumb : Binds K dNumb ["well"] [] := DNumb.F.binds (ps := ["well"]) fun _ _ _ _ _ _ us hl => match us, hl with | [_], _ => rfl
  have bGrow : Binds K dGrow ["well", "book", "costs", "kind", "room"] [] := DGrow.F.binds (ps := ["well", "book", "costs", "kind", "room"]) fun _ _ _ _ _ _ us hl => match us, hl with | [_, _, _, _, _], _ => rfl
  have bBare : Binds K dBare ["book", "kind"] [] := DBare.F.binds (ps := ["book", "kind"]) fun _ _ _ _ _ _ us hl => match us, hl with | [_, _], _ => rfl
  have bBlan : Binds K dBlan ["book", "kind", "value"] [] := DBlan.F.binds (ps := ["book", "kind", "value"]) fun _ _ _ _ _ _ us hl => match us, hl with | [_, _, _], _ => rfl
  have bKSi : Binds K dKSi ["kind", "side"] [] := DKSi.F.binds (ps := ["kind", "side"]) fun _ _ _ _ _ _ us hl => match us, hl with | [_, _], _ => rfl
  have bTaF : Binds K dTaF ["book", "kind"] [] := DTaF.F.binds (ps := ["book", "kind"]) fun _ _ _ _ _ _ us hl => match us, hl with | [_, _], _ => rfl
  have bChV : Binds K dChV ["table", "kind", "value"] [] := DChV.F.binds (ps := ["table", "kind", "value"]) fun _ _ _ _ _ _ us hl => match us, hl with | [_, _, _], _ => rfl
  have bChS : Binds K dChS ["table", "kind", "shape"] [] := DChS.F.binds (ps := ["table", "kind", "shape"]) fun _ _ _ _ _ _ us hl => match us, hl with | [_, _, _], _ => rfl
  have bShK : Binds K dShK ["kind"] [] := DShK.F.binds (ps := ["kind"]) fun _ _ _ _ _ _ us hl => match us, hl with | [_], _ => rfl
  have bShB : Binds K dShB ["book"] [] := DShB.F.binds (ps := ["book"]) fun _ _ _ _ _ _ us hl => match us, hl with | [_], _ => rfl
  have bShV : Binds K dShV ["book", "kind", "value"] [] := DShV.F.binds (ps := ["book", "kind", "value"]) fun _ _ _ _ _ _ us hl => match us, hl with | [_, _, _], _ => rfl
  have bShS : Binds K dShS ["book", "kind", "shape"] [] := DShS.F.binds (ps := ["book", "kind", "shape"]) fun _ _ _ _ _ _ us hl => match us, hl with | [_, _, _], _ => rfl
  have bTeK : Binds K dTeK ["kind"] [] := DTeK.F.binds (ps := ["kind"]) fun _ _ _ _ _ _ us hl => match us, hl with | [_], _ => rfl
  have bTeV : Binds K dTeV ["table", "kind", "value"] [] := DTeV.F.binds (ps := ["table", "kind", "value"]) fun _ _ _ _ _ _ us hl => match us, hl with | [_, _, _], _ => rfl
  have bShN : Binds K dShN ["kind", "value"] [] := DShN.F.binds (ps := ["kind", "value"]) fun _ _ _ _ _ _ us hl => match us, hl with | [_, _], _ => rfl
  have bLKT : Binds K dLKT ["kind"] [] := DLKT.F.binds (ps := ["kind"]) fun _ _ _ _ _ _ us hl => match us, hl with | [_], _ => rfl
  have bLBS : Binds K dLBS ["book"] [] := DLBS.F.binds (ps := ["book"]) fun _ _ _ _ _ _ us hl => match us, hl with | [_], _ => rfl
  have bLVT : Binds K dLVT ["book", "kind", "value", "is_blank"] [] := DLVT.F.binds (ps := ["book", "kind", "value", "is_blank"]) fun _ _ _ _ _ _ us hl => match us, hl with | [_, _, _, _], _ => rfl
  have bIsS : Binds K dIsS ["book", "kind", "value", "by_name"] [] := DIsS.F.binds (ps := ["book", "kind", "value", "by_name"]) fun _ _ _ _ _ _ us hl => match us, hl with | [_, _, _, _], _ => rfl
  have bRigh : Binds K dRigh ["well"] [] := DRigh.F.binds (ps := ["well"]) fun _ _ _ _ _ _ us hl => match us, hl with | [_], _ => rfl
  have kSB : KBo K dShB ["book"] := Fun.bindsK DShB.F (ps := ["book"]) fun _ _ _ _ _ _ ws hl => match ws, hl with | [_], _ => rfl
  have kSK : KBo K dShK ["kind"] := Fun.bindsK DShK.F (ps := ["kind"]) fun _ _ _ _ _ _ ws hl => match ws, hl with | [_], _ => rfl
  have kSV : KB3g K dShV "value" "kind" "book" "book" "kind" "value" (fun x y z => [z, y, x]) := Fun.binds3g DShV.F fun _ _ _ _ _ _ _ _ _ => rfl
  have kSS : KB3g K dShS "shape" "book" "kind" "book" "kind" "shape" (fun x y z => [y, z, x]) := Fun.binds3g DShS.F fun _ _ _ _ _ _ _ _ _ => rfl
  have FL := fun_mk (st := sLaw) lL cL kL
  refine ⟨fnOf "law" "law" (defArgs sLaw) (defBody sLaw) (defScope sLaw) .none kV dc pm an cd ct, fun s u => .of_eq rfl, fun base hb1 hb2 => ?_⟩
  have EB : Eb P w K mg base aC := ⟨One.mk1 E1 fo_index, cb, ct', mg_of X G E1.a, ck, cx⟩
  have gIwr : Gv P w K mg base 1 "is_written" aIwr dIwr ["text"] (spWr) := ⟨ok_iswr DIwr.F T, bIwr, DIwr.F.kp, mg_of X G DIwr.a⟩
  have gInm : Gv P w K mg base 2 "is_name" aInm dInm ["value"] (spNm K) := ⟨ok_isname DInm.F T U gIwr, bInm, DInm.F.kp, mg_of X G DInm.a⟩
  have gAmo : Gv P w K mg base 3 "kinds_among" aAmo dAmo ["part"] (spKa K) := ⟨ok_among DAmo.F T U Tu gInm, bAmo, DAmo.F.kp, mg_of X G DAmo.a⟩
  have gFou : Gv P w K mg base 4 "parts_found" aFou dFou ["value"] (spPf K) := ⟨ok_found DFou.F T Pp gAmo, bFou, DFou.F.kp, mg_of X G DFou.a⟩
  have gIki : Gv P w K mg base 5 "is_kind" aIki dIki ["value"] (spIk K 120) := ⟨ok_iskind DIki.F gFou, bIki, DIki.F.kp, mg_of X G DIki.a⟩
  have gNam : Gv P w K mg base 1 "names_among" aNam dNam ["parts"] (spNa K) := ⟨ok_nmam DNam.F, bNam, DNam.F.kp, mg_of X G DNam.a⟩
  have gNmM : Gv P w K mg base 1 "name_made" aNmM dNmM ["name", "hole"] (spCal K) := ⟨ok_NmMd DNmM.F, bNmM, DNmM.F.kp, mg_of X G DNmM.a⟩
  have gMaO : Gv P w K mg base 1 "made_of" aMaO dMaO ["name"] (spMo K) := ⟨ok_madeof DMaO.F NC, bMaO, DMaO.F.kp, mg_of X G DMaO.a⟩
  have gHoM : Gv P w K mg base 2 "hole_made" aHoM dHoM ["hole"] (spHo K) := ⟨ok_holM DHoM.F NC gNmM, bHoM, DHoM.F.kp, mg_of X G DHoM.a⟩
  have gKiM : Gv P w K mg base 62 "kind_made" aKiM dKiM ["kind", "hole"] (spKm K 30) := kindsM DKiM.F bKiM (mg_of X G DKiM.a) DPaM.F bPaM (mg_of X G DPaM.a) NC gNmM gHoM 30
  have gIKn : Gv P w K mg base 5 "is_known" aIKn dIKn ["table", "value"] (spKn K 120) := ⟨ok_known DIKn.F T gFou gNam, bIKn, DIKn.F.kp, mg_of X G DIKn.a⟩
  have gKnH : Gv P w K mg base 6 "is_known_hole" aKnH dKnH ["table", "value"] (spKh K 120) := ⟨ok_knhole DKnH.F gIKn gIwr, bKnH, DKnH.F.kp, mg_of X G DKnH.a⟩
  have gByR : Gv P w K mg base 63 "is_made_by_rules" aByR dByR ["table", "name"] (spRu K 120) := ⟨ok_byrules (by decide) DByR.F gIwr gMaO gKnH gKiM, bByR, DByR.F.kp, mg_of X G DByR.a⟩
  have gPAb : Gv P w K mg base 6 "is_pair_above" aPAb dPAb ["ahead", "row"] (spPa K 120) := ⟨ok_pairab DPAb.F T U Tu gInm gIki, bPAb, DPAb.F.kp, mg_of X G DPAb.a⟩
  have gChP : GvX P w K mg base 7 "check_pairs" aChP dChP ["book"] (spCp K 120 aC) := ⟨ok_check DChP.F T U Tu V' EB gPAb, bChP, DChP.F.kp, mg_of X G DChP.a⟩
  have gTab : GvX P w K mg base 64 "table_of" aTab dTab ["book"] (spTo K 120 aC) := ⟨ok_table DTab.F V' EB gChP gIKn gByR, bTab, DTab.F.kp, mg_of X G DTab.a⟩
  have gChK : Gv P w K mg base 6 "check_kind" aChK dChK ["table", "kind"] (spCk K 120) := ⟨ok_checkkind DChK.F gIKn, bChK, DChK.F.kp, mg_of X G DChK.a⟩
  have gWhN : Gv P w K mg base 1 "is_whole_number" aWhN dWhN ["value"] (spLeaf K numOk) := ⟨ok_whole DWhN.F U INT, bWhN, DWhN.F.kp, mg_of X G DWhN.a⟩
  have gEmp : Gv P w K mg base 1 "is_empty" aEmp dEmp ["value"] (spLeaf K emptyD) := ⟨ok_empty DEmp.F T U Tu, bEmp, DEmp.F.kp, mg_of X G DEmp.a⟩
  have gROf : Gv P w K mg base 1 "is_row_of" aROf dROf ["word", "many", "row"] (spRow K) := ⟨ok_rowof DROf.F T U, bROf, DROf.F.kp, mg_of X G DROf.a⟩
  have gPwi : Gv P w K mg base 2 "parts_within" aPwi dPwi ["kind", "value", "is_thing"] (spPwi K numOk aWhN) := ⟨ok_within (Nat.le_refl 1) DPwi.F U Tu gWhN gEmp gROf, bPwi, DPwi.F.kp, mg_of X G DPwi.a⟩
  have gPwE : Gv P w K mg base 2 "parts_within" aPwi dPwi ["kind", "value", "is_thing"] (spPwi K emptyD aEmp) := ⟨ok_within (Nat.le_refl 1) DPwi.F U Tu gEmp gEmp gROf, bPwi, DPwi.F.kp, mg_of X G DPwi.a⟩
  have gUnf : Gv P w K mg base 1 "unfolded" aUnf dUnf ["table", "kind"] (spUnf K) := ⟨ok_unfolded DUnf.F R N.len NC, bUnf, DUnf.F.kp, mg_of X G DUnf.a⟩
  have gHKi : Gv P w K mg base 3 "has_kind" aHKi dHKi ["table", "kind", "value", "is_thing"] (spHk K numOk aWhN) := ⟨ok_haskind DHKi.F gUnf gPwi, bHKi, DHKi.F.kp, mg_of X G DHKi.a⟩
  have gHKe : Gv P w K mg base 3 "has_kind" aHKi dHKi ["table", "kind", "value", "is_thing"] (spHk K emptyD aEmp) := ⟨ok_haskind DHKi.F gUnf gPwE, bHKi, DHKi.F.kp, mg_of X G DHKi.a⟩
  have gDraw : Gv P w K mg base 1 "_law_draw" aDraw dDraw ["well", "many"] (spDraw) := ⟨ok_draw DDraw.F N, bDraw, DDraw.F.kp, mg_of X G DDraw.a⟩
  have gPick : Gv P w K mg base 2 "_law_pick" aPick dPick ["well", "some"] (spPick K) := ⟨ok_pick DPick.F N gDraw.ok gDraw.b gDraw.k gDraw.m, bPick, DPick.F.kp, mg_of X G DPick.a⟩
  have gPickS : Gv P w K mg base 2 "_law_pick" aPick dPick ["well", "some"] (spPickS) := ⟨ok_pickS DPick.F N gDraw, bPick, DPick.F.kp, mg_of X G DPick.a⟩
  have gPickL : Gv P w K mg base 2 "_law_pick" aPick dPick ["well", "some"] (spPickL K) := ⟨ok_pickL DPick.F N gDraw, bPick, DPick.F.kp, mg_of X G DPick.a⟩
  have gWell : Gv P w K mg base 1 "_law_well" aWell dWell ["script", "turn"] (spWell K) := ⟨ok_well DWell.F N, bWell, DWell.F.kp, mg_of X G DWell.a⟩
  have gSame : GvZ (RoomG 1) P w K mg base "_law_same" aSame dSame ["told", "due"] (spSame K) := ⟨ok_same DSame.F N, bSame, DSame.F.kp, mg_of X G DSame.a⟩
  have gWrit : Gv P w K mg base 3 "_law_written" aWrit dWrit ["well"] (spWrt) := ⟨ok_writW DWrit.F R gDraw gPick gPickS.ok, bWrit, DWrit.F.kp, mg_of X G DWrit.a⟩
  have gKx := kindsX DKin.F bKin (mg_of X G DKin.a) N gDraw gPick gPickL.ok
  have gCall : Gv P w K mg base 1 "_law_called" aCall dCall ["name", "hole"] (spCal K) := ⟨ok_Clld DCall.F, bCall, DCall.F.kp, mg_of X G DCall.a⟩
  have gMadB : Gv P w K mg base 31 "_law_made_by" aMadB dMadB ["kind", "hole"] (spMb K 30) := madebys DMadB.F bMadB (mg_of X G DMadB.a) gCall 30
  have gAllB : Gv P w K mg base 32 "_law_all_by" aAllB dAllB ["book", "hole"] (spAb K) := ⟨ok_allby DAllB.F TU SG gCall gMadB, bAllB, DAllB.F.kp, mg_of X G DAllB.a⟩
  have gNams : Gv P w K mg base 4 "_law_names" aNams dNams ["well", "many"] (spNs K) := ⟨ok_names DNams.F R SG gWrit, bNams, DNams.F.kp, mg_of X G DNams.a⟩
  have gBody : Gv P w K mg base 7 "_law_body" aBody dBody ["well", "names"] (spBo K) := ⟨ok_body DBody.F gDraw gPick gPickL.ok (gKx 2) (gKx 3), bBody, DBody.F.kp, mg_of X G DBody.a⟩
  have gBook : Gv P w K mg base 8 "_law_book" aBook dBook ["well"] (spBk K) := ⟨ok_book DBook.F TU gNams gPick gBody, bBook, DBook.F.kp, mg_of X G DBook.a⟩
  have gHole : Gv P w K mg base 3 "_law_hole" aHole dHole ["well", "book"] (spHl K) := ⟨ok_hole DHole.F gDraw gPick gPickL.ok, bHole, DHole.F.kp, mg_of X G DHole.a⟩
  have gKiOf : Gv P w K mg base 1 "_law_kind_of" aKiOf dKiOf ["book", "name"] (spKo K) := ⟨ok_kindof DKiOf.F, bKiOf, DKiOf.F.kp, mg_of X G DKiOf.a⟩
  have gCost : Gv P w K mg base 22 "_law_cost" aCost dCost ["kind", "costs"] (spCo K 22) := costsF DCost.F bCost (mg_of X G DCost.a) MI 22
  have gCsts : Gv P w K mg base 23 "_law_costs" aCsts dCsts ["book"] (spCs K) := ⟨ok_costs DCsts.F R N gCost, bCsts, DCsts.F.kp, mg_of X G DCsts.a⟩
  have gNumb : Gv P w K mg base 3 "_law_number" aNumb dNumb ["well"] (spNu) := ⟨ok_number DNumb.F INT gDraw gPick, bNumb, DNumb.F.kp, mg_of X G DNumb.a⟩
  have gGrow : Gv P w K mg base 82 "_law_grown" aGrow dGrow ["well", "book", "costs", "kind", "room"] (spGr K 60) := growns DGrow.F bGrow (mg_of X G DGrow.a) MX gDraw gNumb gKiOf gCost 60
  have gBare : Gv P w K mg base 2 "_law_bare" aBare dBare ["book", "kind"] (spBr K) := ⟨ok_bare DBare.F R N gKiOf, bBare, DBare.F.kp, mg_of X G DBare.a⟩
  have gBlan : Gv P w K mg base 62 "_law_blank" aBlan dBlan ["book", "kind", "value"] (spBl K 60) := blanks DBlan.F bBlan (mg_of X G DBlan.a) gBare 60
  have gKSi : Gv P w K mg base 1 "kind_on_side" aKSi dKSi ["kind", "side"] (spKs K) := ⟨ok_side DKSi.F, bKSi, DKSi.F.kp, mg_of X G DKSi.a⟩
  have gTaF : Gv P w K mg base 65 "table_for" aTaF dTaF ["book", "kind"] (spTf K 120) := ⟨ok_tablefor DTaF.F gTab gChK, bTaF, DTaF.F.kp, mg_of X G DTaF.a⟩
  have gChV : Gv P w K mg base 4 "check_value" aChV dChV ["table", "kind", "value"] (spCvN K) := ⟨ok_checkvalueN DChV.F gWhN.m gHKi, bChV, DChV.F.kp, mg_of X G DChV.a⟩
  have gChS : Gv P w K mg base 4 "check_shape" aChS dChS ["table", "kind", "shape"] (spCvS K) := ⟨ok_checkshape DChS.F gEmp.m gHKe, bChS, DChS.F.kp, mg_of X G DChS.a⟩
  have gTeK : Gv P w K mg base 22 "text_of_kind" aTeK dTeK ["kind"] (spTk K 22) := ktexts DTeK.F bTeK (mg_of X G DTeK.a) 22
  have gLKT : Gv P w K mg base 22 "_law_kind_text" aLKT dLKT ["kind"] (spTk K 22) := lktexts DLKT.F bLKT (mg_of X G DLKT.a) 22
  have gShK : Gv P w K mg base 23 "show_kind" aShK dShK ["kind"] (spKf K) := ⟨ok_showkind DShK.F gIki gTeK, bShK, DShK.F.kp, mg_of X G DShK.a⟩
  have gShB : Gv P w K mg base 65 "show_book" aShB dShB ["book"] (spBs K) := ⟨ok_showbook DShB.F gTab gTeK, bShB, DShB.F.kp, mg_of X G DShB.a⟩
  have gLBS : Gv P w K mg base 23 "_law_book_shown" aLBS dLBS ["book"] (spBx K) := ⟨ok_lbook DLBS.F gLKT, bLBS, DLBS.F.kp, mg_of X G DLBS.a⟩
  have gShN : Gv P w K mg base 2 "shown_next" aShN dShN ["kind", "value"] (spNx K) := ⟨ok_next DShN.F U gKSi, bShN, DShN.F.kp, mg_of X G DShN.a⟩
  have gTeV : Gv P w K mg base 3 "text_of_value" aTeV dTeV ["table", "kind", "value"] (spTv K) := ⟨ok_textv DTeV.F U gUnf gShN, bTeV, DTeV.F.kp, mg_of X G DTeV.a⟩
  have gShV : Gv P w K mg base 66 "show_value" aShV dShV ["book", "kind", "value"] (spSh K numOk false) := ⟨ok_showvalue DShV.F gTaF gChV gTeV, bShV, DShV.F.kp, mg_of X G DShV.a⟩
  have gShS : Gv P w K mg base 66 "show_shape" aShS dShS ["book", "kind", "shape"] (spSh K emptyD true) := ⟨ok_showshape DShS.F gTaF gChS gTeV, bShS, DShS.F.kp, mg_of X G DShS.a⟩
  have gLVT : Gv P w K mg base 62 "_law_value_text" aLVT dLVT ["book", "kind", "value", "is_blank"] (spVt K 60) := vtexts DLVT.F bLVT (mg_of X G DLVT.a) U gBare 60
  have gKinA : Gv P w K mg base 9 "_law_kind" aKin dKin ["well", "names", "deep"] (spKAny K) := ⟨kindsA gKx, bKin, DKin.F.kp, mg_of X G DKin.a⟩
  have gIsS : GvZ (RoomG 127) P w K mg base "_law_is_shown" aIsS dIsS ["book", "kind", "value", "by_name"] (spIsS K) := ⟨ok_isshown DIsS.F gBlan gLVT gShV kSV gShS kSS gSame, bIsS, DIsS.F.kp, mg_of X G DIsS.a⟩
  have gRigh : GvZ (RoomG 128) P w K mg base "_law_right" aRigh dRigh ["well"] (spRi) := ⟨ok_right DRigh.F R gDraw gPick gBook gHole gAllB gCsts gCost gLBS gShB kSB gKinA gLKT gShK kSK gGrow gIsS gSame, bRigh, DRigh.F.kp, mg_of X G DRigh.a⟩
  exact ok_law FL N R L gWell gRigh
end
theorem walk {l : OpenLaw} {q : Program} {loose : List Str} {XP : (Str → Option Value) → Heap → Prop} {YP : World → Heap → Prop} {d : DefRec} {K : Params → Frag} (hn : l.most = some 63) (hdf : d.params.defaults = [])
    (hY : ∀ (w : World) (h : Heap), YP w h → (K w.params).In h)
    (F : ∀ (w : World) (mg : Str → Option Value) (fa : Addr) (h : Heap), (K w.params).In h → h.Ns mainGlobals mg → mg d.name = some (.ref fa) →
      ∃ fd : FuncData, (∀ (s : Shared) (u : Value), BindsTo s fd ⟨[u], []⟩ [("script", u)]) ∧ ∀ base : Heap, (K w.params).In base → base.Ns mainGlobals mg → FnZ (RoomG 129) l.prog w (K w.params) mg base fa fd ["script"] (spLaw (K w.params))) :
    WalkO q loose XP YP l.row.toRowW d [] (fun f vs => PySem.call f vs) :=
  L2.walk_ofZ (Z := RoomG 129) (n := 63) (x := "script") (sp := fun w => spLaw (K w.params)) hn (by decide) hdf ⟨⟨rfl, by decide, by decide⟩, rfl⟩ hY F (fun w H a ns hl hO hS => ⟨a, ns, rfl, hS, hl, fun _ => rfl⟩)
end Toy
set_option Elab.async false
set_option linter.all false
set_option maxRecDepth 100000
open PySem PySem.W PyProof.Rows
set_option maxRecDepth 100000 in
set_option maxHeartbeats 0 in
theorem PySem.Challenge.cw_holekinds_k07_shown_by_own_printer_holds : PySem.Challenge.rw_holekinds_k07_shown_by_own_printer.Holds := by
  w_on; o_law; k_head; (case hw => w_witness2)
  k_fill
  refine Toy.walk (l := PySem.Challenge.rw_holekinds_k07_shown_by_own_printer) rfl rfl (fun w h Y => PySem.W.kIn_of Y) ?F
  case F =>
    intro w mg fa h KX G hmg
    refine' Toy.all_mk KX G hmg ?DInm ?DIwr ?DIki ?DNam ?DFou ?DAmo ?DNmM ?DMaO ?DKiM ?DHoM ?DPaM ?DTab ?DChP ?DPAb ?DByR ?DChK ?DIKn ?DKnH ?DWhN ?DEmp ?DHKi ?DUnf ?DPwi ?DROf ?DWell ?DDraw ?DPick ?DSame ?DWrit ?DKin ?DCall ?DMadB ?DAllB ?DNams ?DBody ?DBook ?DHole ?DKiOf ?DCost ?DCsts ?DNumb ?DGrow ?DBare ?DBlan ?DKSi ?DTaF ?DChV ?DChS ?DShK ?DShB ?DShV ?DShS ?DTeK ?DTeV ?DShN ?DLKT ?DLBS ?DLVT ?DIsS ?DRigh ?C1 ?C2 ?C3 ?C4 ?C5 ?C6 ?C7 ?hT ?lT ?hN ?lN ?hU ?lU ?E1 ?cb ?ct ?ck ?cx ?aL ?lL ?cL ?kL ?b0
    case DInm => refine' Toy.def_mk ?a ?l ?c ?k; (case a => k_is); (case l => k_is); (case c => k_is); (case k => k_is)
    case DIwr => refine' Toy.def_mk ?a ?l ?c ?k; (case a => k_is); (case l => k_is); (case c => k_is); (case k => k_is)
    case DIki => refine' Toy.def_mk ?a ?l ?c ?k; (case a => k_is); (case l => k_is); (case c => k_is); (case k => k_is)
    case DNam => refine' Toy.def_mk ?a ?l ?c ?k; (case a => k_is); (case l => k_is); (case c => k_is); (case k => k_is)
    case DFou => refine' Toy.def_mk ?a ?l ?c ?k; (case a => k_is); (case l => k_is); (case c => k_is); (case k => k_is)
    case DAmo => refine' Toy.def_mk ?a ?l ?c ?k; (case a => k_is); (case l => k_is); (case c => k_is); (case k => k_is)
    case DNmM => refine' Toy.def_mk ?a ?l ?c ?k; (case a => k_is); (case l => k_is); (case c => k_is); (case k => k_is)
    case DMaO => refine' Toy.def_mk ?a ?l ?c ?k; (case a => k_is); (case l => k_is); (case c => k_is); (case k => k_is)
    case DKiM => refine' Toy.def_mk ?a ?l ?c ?k; (case a => k_is); (case l => k_is); (case c => k_is); (case k => k_is)
    case DHoM => refine' Toy.def_mk ?a ?l ?c ?k; (case a => k_is); (case l => k_is); (case c => k_is); (case k => k_is)
    case DPaM => refine' Toy.def_mk ?a ?l ?c ?k; (case a => k_is); (case l => k_is); (case c => k_is); (case k => k_is)
    case DTab => refine' Toy.def_mk ?a ?l ?c ?k; (case a => k_is); (case l => k_is); (case c => k_is); (case k => k_is)
    case DChP => refine' Toy.def_mk ?a ?l ?c ?k; (case a => k_is); (case l => k_is); (case c => k_is); (case k => k_is)
    case DPAb => refine' Toy.def_mk ?a ?l ?c ?k; (case a => k_is); (case l => k_is); (case c => k_is); (case k => k_is)
    case DByR => refine' Toy.def_mk ?a ?l ?c ?k; (case a => k_is); (case l => k_is); (case c => k_is); (case k => k_is)
    case DChK => refine' Toy.def_mk ?a ?l ?c ?k; (case a => k_is); (case l => k_is); (case c => k_is); (case k => k_is)
    case DIKn => refine' Toy.def_mk ?a ?l ?c ?k; (case a => k_is); (case l => k_is); (case c => k_is); (case k => k_is)
    case DKnH => refine' Toy.def_mk ?a ?l ?c ?k; (case a => k_is); (case l => k_is); (case c => k_is); (case k => k_is)
    case DWhN => refine' Toy.def_mk ?a ?l ?c ?k; (case a => k_is); (case l => k_is); (case c => k_is); (case k => k_is)
    case DEmp => refine' Toy.def_mk ?a ?l ?c ?k; (case a => k_is); (case l => k_is); (case c => k_is); (case k => k_is)
    case DHKi => refine' Toy.def_mk ?a ?l ?c ?k; (case a => k_is); (case l => k_is); (case c => k_is); (case k => k_is)
    case DUnf => refine' Toy.def_mk ?a ?l ?c ?k; (case a => k_is); (case l => k_is); (case c => k_is); (case k => k_is)
    case DPwi => refine' Toy.def_mk ?a ?l ?c ?k; (case a => k_is); (case l => k_is); (case c => k_is); (case k => k_is)
    case DROf => refine' Toy.def_mk ?a ?l ?c ?k; (case a => k_is); (case l => k_is); (case c => k_is); (case k => k_is)
    case DWell => refine' Toy.def_mk ?a ?l ?c ?k; (case a => k_is); (case l => k_is); (case c => k_is); (case k => k_is)
    case DDraw => refine' Toy.def_mk ?a ?l ?c ?k; (case a => k_is); (case l => k_is); (case c => k_is); (case k => k_is)
    case DPick => refine' Toy.def_mk ?a ?l ?c ?k; (case a => k_is); (case l => k_is); (case c => k_is); (case k => k_is)
    case DSame => refine' Toy.def_mk ?a ?l ?c ?k; (case a => k_is); (case l => k_is); (case c => k_is); (case k => k_is)
    case DWrit => refine' Toy.def_mk ?a ?l ?c ?k; (case a => k_is); (case l => k_is); (case c => k_is); (case k => k_is)
    case DKin => refine' Toy.def_mk ?a ?l ?c ?k; (case a => k_is); (case l => k_is); (case c => k_is); (case k => k_is)
    case DCall => refine' Toy.def_mk ?a ?l ?c ?k; (case a => k_is); (case l => k_is); (case c => k_is); (case k => k_is)
    case DMadB => refine' Toy.def_mk ?a ?l ?c ?k; (case a => k_is); (case l => k_is); (case c => k_is); (case k => k_is)
    case DAllB => refine' Toy.def_mk ?a ?l ?c ?k; (case a => k_is); (case l => k_is); (case c => k_is); (case k => k_is)
    case DNams => refine' Toy.def_mk ?a ?l ?c ?k; (case a => k_is); (case l => k_is); (case c => k_is); (case k => k_is)
    case DBody => refine' Toy.def_mk ?a ?l ?c ?k; (case a => k_is); (case l => k_is); (case c => k_is); (case k => k_is)
    case DBook => refine' Toy.def_mk ?a ?l ?c ?k; (case a => k_is); (case l => k_is); (case c => k_is); (case k => k_is)
    case DHole => refine' Toy.def_mk ?a ?l ?c ?k; (case a => k_is); (case l => k_is); (case c => k_is); (case k => k_is)
    case DKiOf => refine' Toy.def_mk ?a ?l ?c ?k; (case a => k_is); (case l => k_is); (case c => k_is); (case k => k_is)
    case DCost => refine' Toy.def_mk ?a ?l ?c ?k; (case a => k_is); (case l => k_is); (case c => k_is); (case k => k_is)
    case DCsts => refine' Toy.def_mk ?a ?l ?c ?k; (case a => k_is); (case l => k_is); (case c => k_is); (case k => k_is)
    case DNumb => refine' Toy.def_mk ?a ?l ?c ?k; (case a => k_is); (case l => k_is); (case c => k_is); (case k => k_is)
    case DGrow => refine' Toy.def_mk ?a ?l ?c ?k; (case a => k_is); (case l => k_is); (case c => k_is); (case k => k_is)
    case DBare => refine' Toy.def_mk ?a ?l ?c ?k; (case a => k_is); (case l => k_is); (case c => k_is); (case k => k_is)
    case DBlan => refine' Toy.def_mk ?a ?l ?c ?k; (case a => k_is); (case l => k_is); (case c => k_is); (case k => k_is)
    case DKSi => refine' Toy.def_mk ?a ?l ?c ?k; (case a => k_is); (case l => k_is); (case c => k_is); (case k => k_is)
    case DTaF => refine' Toy.def_mk ?a ?l ?c ?k; (case a => k_is); (case l => k_is); (case c => k_is); (case k => k_is)
    case DChV => refine' Toy.def_mk ?a ?l ?c ?k; (case a => k_is); (case l => k_is); (case c => k_is); (case k => k_is)
    case DChS => refine' Toy.def_mk ?a ?l ?c ?k; (case a => k_is); (case l => k_is); (case c => k_is); (case k => k_is)
    case DShK => refine' Toy.def_mk ?a ?l ?c ?k; (case a => k_is); (case l => k_is); (case c => k_is); (case k => k_is)
    case DShB => refine' Toy.def_mk ?a ?l ?c ?k; (case a => k_is); (case l => k_is); (case c => k_is); (case k => k_is)
    case DShV => refine' Toy.def_mk ?a ?l ?c ?k; (case a => k_is); (case l => k_is); (case c => k_is); (case k => k_is)
    case DShS => refine' Toy.def_mk ?a ?l ?c ?k; (case a => k_is); (case l => k_is); (case c => k_is); (case k => k_is)
    case DTeK => refine' Toy.def_mk ?a ?l ?c ?k; (case a => k_is); (case l => k_is); (case c => k_is); (case k => k_is)
    case DTeV => refine' Toy.def_mk ?a ?l ?c ?k; (case a => k_is); (case l => k_is); (case c => k_is); (case k => k_is)
    case DShN => refine' Toy.def_mk ?a ?l ?c ?k; (case a => k_is); (case l => k_is); (case c => k_is); (case k => k_is)
    case DLKT => refine' Toy.def_mk ?a ?l ?c ?k; (case a => k_is); (case l => k_is); (case c => k_is); (case k => k_is)
    case DLBS => refine' Toy.def_mk ?a ?l ?c ?k; (case a => k_is); (case l => k_is); (case c => k_is); (case k => k_is)
    case DLVT => refine' Toy.def_mk ?a ?l ?c ?k; (case a => k_is); (case l => k_is); (case c => k_is); (case k => k_is)
    case DIsS => refine' Toy.def_mk ?a ?l ?c ?k; (case a => k_is); (case l => k_is); (case c => k_is); (case k => k_is)
    case DRigh => refine' Toy.def_mk ?a ?l ?c ?k; (case a => k_is); (case l => k_is); (case c => k_is); (case k => k_is)
    (case C1 => k_is); (case C2 => k_is); (case C3 => k_is); (case C4 => k_is); (case C5 => k_is); (case C6 => k_is); (case C7 => k_is)
    (case hT => k_is); (case lT => k_is); (case hN => k_is); (case lN => k_is); (case hU => k_is); (case lU => k_is)
    case E1 =>
      refine' Toy.one_mk (pa := ⟨16, 17, 16, 21⟩) (pb := ⟨16, 23, 16, 28⟩) (txt := "no BOOK") (p := fun i => [⟨17, 8, 17, 13⟩, ⟨17, 8, 17, 15⟩, ⟨17, 8, 17, 24⟩, ⟨17, 25, 17, 34⟩, ⟨17, 8, 17, 35⟩, ⟨17, 8, 17, 35⟩, ⟨18, 8, 18, 12⟩, ⟨18, 8, 18, 18⟩, ⟨18, 21, 18, 26⟩, ⟨18, 8, 18, 26⟩].getD i ⟨0, 0, 0, 0⟩) ?a ?xL ?hb ?sa ?iC ?tC ?kC ?sb ?sV ?su ?tp ?sp ?l1 ?c1 ?l2 ?l3 ?n ?v2 ?mf ?top ?se
      (case a => k_is); (case xL => k_is); (case hb => decide +kernel); (case sa => k_is); (case iC => k_is); (case tC => k_is); (case kC => k_is); (case sb => k_is); (case sV => k_is); (case su => ks_is); (case tp => k_is); (case sp => k_is); (case l1 => k_is); (case c1 => k_is); (case l2 => k_is); (case l3 => k_is); (case n => k_is); (case v2 => rfl); (case mf => decide +kernel); (case top => decide +kernel); (case se => (exact fun _ => rfl))
    (case cb => k_is); (case ct => k_is); (case ck => k_is); (case cx => first | k_is | kernel_rfl)
    (case aL => k_is); (case lL => k_is); (case cL => k_is); (case kL => k_is)
    (case b0 => kernel_rfl)
