import PyProof.Rows.All
import Wide.All
import OpenK.AllK
import Wide.FinOn
import KE.KStateDown
import Lean
import HandS.Head0
import HandS.Head1
import HandS.Head2
import HandS.HeadEnd
import HandS.HeadHook1
import HandS.HeadHook2
import HandS.ForMost
import HandS.ExcInit
import PyProof.ReprRoads
import HandS.Wide
import HandS.Style
import HandS.IsInst
import KE.KOpsOwn
import KE.KFmtOwn
import KE.KCallOwn
import PyProof.FactsAll.object_2
import HandS.ClsMeth
import HandS.CallLocal
import HandS.ExcField
import HandS.ExcIs
import HandS.MakeKw
import HandS.MakeKwOnly
import KE.KExcIs
import PyProof.InstStoreFacts
import PyProof.StrBlock2
import PyProof.Rows.StrMul
import HandS.Deep
import HandS.Walk
import KE.GoesMore
import HandS.Star
import PyProof.ReprLen
import PyProof.StrLawsRepr
import HandS.TupAny
import HandS.WordsExc
import HandS.TryOnly
import HandS.DictComp
import OpenK.KOps
import HandS.StrMore
import HandS.SetKeys
import HandS.Conv
import HandS.Property
import HandS.Zip
import HandS.Rev
import HandS.TupMul
import PySem.Challenge.RW_towgrove_k04_values_that_are_trees
set_option Elab.async false
set_option linter.all false
set_option maxRecDepth 100000
set_option maxHeartbeats 4000000
/-! the head by one run, its facts any tests of the written part; defs by any path -/
namespace Hh
open PySem PySem.Spec PyProof.Rows L2
/-- a def of no defaults: where it stands, its name, its qualified name, its text -/
structure Df where
  ad : PySem.W.Frag → Addr
  name : Str
  qual : Str
  st : Stmt
def fnX (K : PySem.W.Frag) (a : Addr) : He.FnW := match K.lookup a with
  | some ⟨_, _, .func fd, _⟩ => some (fd.name, fd.qualname, fd.params, fd.body, fd.scope, fd.globals, fd.closure, fd.builtins)
  | _ => none
def Df.val (d : Df) : He.FnW := some (d.name, d.qual, defArgs d.st, .stmts (defBody d.st), defScope d.st, mainGlobals, [], builtinsNs)
def noneV : Value → Bool
  | .none => true
  | _ => false
def Df.ok (K : PySem.W.Frag) (d : Df) : Bool := PySem.W.keepIn K (.ref (d.ad K)) && (match K.lookup (d.ad K) with
  | some ⟨_, _, .func fd, _⟩ => PySem.W.codeIn K fd.code d.qual && noneV fd.defaults
  | _ => false)
theorem Df.fun_ {K : PySem.W.Frag} {d : Df} (e : fnX K (d.ad K) = d.val) (c : d.ok K = true) : ∃ fd, Fun K d.name d.qual d.st (d.ad K) fd := by
  obtain ⟨kp, c2⟩ := Bool.and_eq_true_iff.mp c
  unfold fnX at e
  cases q : K.lookup (d.ad K) with
  | none =>
    rw [q] at c2
    cases c2
  | some o =>
    obtain ⟨oc, od, dt, osl⟩ := o
    rw [q] at c2 e
    cases dt with
    | func fd =>
      obtain ⟨n1, n2, n3, n4, n5, n6, n7, n8, n9, n10, n11, n12, n13, n14, n15⟩ := fd
      have e2 : (some (n1, n2, n3, n4, n5, n6, n7, n15) : He.FnW) = some (d.name, d.qual, defArgs d.st, .stmts (defBody d.st), defScope d.st, mainGlobals, [], builtinsNs) := e
      simp only [Option.some.injEq, Prod.mk.injEq] at e2
      obtain ⟨h1, h2, h3, h4, h5, h6, h7, h8⟩ := e2
      subst h1 h2 h3 h4 h5 h6 h7 h8
      have c3 : (PySem.W.codeIn K n13 d.qual && noneV n8) = true := c2
      obtain ⟨k1, k2⟩ := Bool.and_eq_true_iff.mp c3
      cases n8 with
      | none => exact ⟨_, ⟨oc, od, n9, n10, n11, n12, n13, n14, osl, rfl, q, k1⟩, kp⟩
      | _ => cases k2
    | _ => cases c2
/-! ### paths -/
def rec1 (K : PySem.W.Frag) (p : Addr) (t : String) : Addr := match PySem.W.recIn K p t with
  | some (.ref g :: _) => g
  | _ => 0
def recRest (K : PySem.W.Frag) (p : Addr) (t : String) : List Value := match PySem.W.recIn K p t with
  | some (_ :: r) => r
  | _ => []
def tokAt (K : PySem.W.Frag) (x : Str) : Option Tok := match PySem.W.nsIn K mainGlobals x with
  | some (some (.int _ t)) => some t
  | _ => none
def intAt (K : PySem.W.Frag) (x : Str) (i : Int) : Bool := match PySem.W.nsIn K mainGlobals x with
  | some (some (.int j _)) => decide (j = i)
  | _ => false
theorem intAt_ok {K : PySem.W.Frag} {x : Str} {i : Int} (h : intAt K x i = true) : ∃ t, PySem.W.nsIn K mainGlobals x = some (some (.int i t)) := by
  unfold intAt at h
  cases e : PySem.W.nsIn K mainGlobals x with
  | none => rw [e] at h; cases h
  | some o =>
    rw [e] at h
    cases o with
    | none => cases h
    | some v =>
      cases v with
      | int j t =>
        have ej : j = i := of_decide_eq_true h
        exact ⟨t, by rw [ej]⟩
      | _ => cases h
def getB (K : PySem.W.Frag) (C : Addr) (m : Str) (g : String) (p : Addr) : Bool := match PySem.W.findCls K (.ref C) (.type "type") m with
  | some (.get (.builtin s) (.ref q) .none (.ref c)) => decide (s = g) && (decide (q = p) && decide (c = C))
  | _ => false
theorem getB_ok {K : PySem.W.Frag} {C : Addr} {m : Str} {g : String} {p : Addr} (h : getB K C m g p = true) : PySem.W.findCls K (.ref C) (.type "type") m = some (.get (.builtin g) (.ref p) .none (.ref C)) := by
  unfold getB at h
  split at h
  · rename_i s q c e
    obtain ⟨h1, h2⟩ := Bool.and_eq_true_iff.mp h
    obtain ⟨h3, h4⟩ := Bool.and_eq_true_iff.mp h2
    rw [e, of_decide_eq_true h1, of_decide_eq_true h3, of_decide_eq_true h4]
  · cases h
def recB (K : PySem.W.Frag) (p : Addr) (t : String) : Bool := match PySem.W.recIn K p t with
  | some (.ref _ :: _) => true
  | _ => false
theorem recB_ok {K : PySem.W.Frag} {p : Addr} {t : String} (h : recB K p t = true) : PySem.W.recIn K p t = some (.ref (rec1 K p t) :: recRest K p t) := by
  unfold recB at h
  unfold rec1 recRest
  split at h
  · rename_i g r e
    rw [e]
  · cases h
/-- an own exception class over ValueError -/
def excB (K : PySem.W.Frag) (C : Addr) : Bool := match K.lookup C with
  | some ⟨.type "type", _, .cls cd, sl⟩ => (match cd.mro, sl.toList with
    | .ref c :: bm, [_, _, _, _, some (.builtin n), _] => decide (c = C) && (decide (n = "ValueError.__new__") && (!cd.hasDel && (cd.hasDict && PySem.HandSPX.refsVE bm)))
    | _, _ => false)
  | _ => false
theorem excB_ok {K : PySem.W.Frag} {C : Addr} (h : excB K C = true) : ∃ nm q N bs bm sn sub ab col dd k0 k1 k2 k3 k5, K.lookup C = some (excClassObj nm q C N bs bm true sn sub ab col dd k0 k1 k2 k3 k5 "ValueError.__new__") ∧ PySem.HandSPX.refsVE bm = true := by
  unfold excB at h
  split at h
  · rename_i dd cd sl ho
    split at h
    · rename_i c bm k0 k1 k2 k3 n k5 hm hs
      obtain ⟨h1, h⟩ := Bool.and_eq_true_iff.mp h
      obtain ⟨h2, h⟩ := Bool.and_eq_true_iff.mp h
      obtain ⟨h3, h⟩ := Bool.and_eq_true_iff.mp h
      obtain ⟨h4, h5⟩ := Bool.and_eq_true_iff.mp h
      have e1 : c = C := of_decide_eq_true h1
      have e2 : n = "ValueError.__new__" := of_decide_eq_true h2
      have e3 : cd.hasDel = false := by simpa using h3
      obtain ⟨nm, bs, mro, ns, qn, hd, sn, sub, ab, col, del⟩ := cd
      dsimp only at hm e3 h4
      subst hm e3 e1 e2 h4
      have hsl : sl = #[k0, k1, k2, k3, some (.builtin "ValueError.__new__"), k5] := by
        obtain ⟨l⟩ := sl
        simp only at hs
        rw [hs]
      subst hsl
      exact ⟨nm, qn, ns, bs, bm, sn, sub, ab, col, dd, k0, k1, k2, k3, k5, ho, h5⟩
    · cases h
  · cases h
/-! ### the Hook -/
abbrev Al : Type := Bool × List He.FnW
def obsK (ex : PySem.W.Frag → Bool) (fn : List Df) (K : PySem.W.Frag) : Al := (ex K && fn.all fun d => d.ok K, fn.map fun d => fnX K (d.ad K))
def valK (fn : List Df) : Al := (true, fn.map Df.val)
def Says (ex : PySem.W.Frag → Bool) (fn : List Df) (K : PySem.W.Frag) : Prop := obsK ex fn K = valK fn
def hook (as : List Addr) (ex : PySem.W.Frag → Bool) (fn : List Df) : PySem.W.Hook where
  α := Al
  obs := fun s => obsK ex fn (He.frG s.heap.get? as)
  val := fun _ => valK fn
  says := fun _ h => ∃ K : PySem.W.Frag, K.In h ∧ Says ex fn K
  of := fun _ _ e => ⟨_, He.frG_in, e⟩
  keeps := fun _ _ _ ⟨K, hK, c⟩ k => ⟨K, PySem.W.Frag.In.keeps hK k, c⟩
def ob (as : List Addr) (ex : PySem.W.Frag → Bool) (fn : List Df) (s : PySem.W.SharedT) : Al := obsK ex fn (He.frG (HandSHeadRun.getT s) as)
theorem ob_eq {as : List Addr} {ex : PySem.W.Frag → Bool} {fn : List Df} (s : PySem.W.SharedT) : ob as ex fn s = (hook as ex fn).obs s.abs := by
  have e : HandSHeadRun.getT s = s.abs.heap.get? := funext fun a => HandSHeadRun.getT_eq s a
  unfold ob
  rw [e]
  rfl
section
variable {ex : PySem.W.Frag → Bool} {fn : List Df} {K : PySem.W.Frag}
theorem Says.ex_ (c : Says ex fn K) : ex K = true := (Bool.and_eq_true_iff.mp (show (ex K && fn.all fun d => d.ok K) = true from congrArg (fun z : Al => z.1) c)).1
theorem Says.fun_ (c : Says ex fn K) (i : Nat) {d : Df} (h : fn[i]? = some d := by rfl) : ∃ fd, Fun K d.name d.qual d.st (d.ad K) fd := by
  have c2 := (Bool.and_eq_true_iff.mp (show (ex K && fn.all fun d => d.ok K) = true from congrArg (fun z : Al => z.1) c)).2
  have e : fn.map (fun d => fnX K (d.ad K)) = fn.map Df.val := congrArg (fun z : Al => z.2) c
  have e2 : (fn.map fun d => fnX K (d.ad K))[i]? = (fn.map Df.val)[i]? := by rw [e]
  rw [List.getElem?_map, List.getElem?_map, h] at e2
  exact Df.fun_ (Option.some.inj e2) (List.all_eq_true.mp c2 d (List.mem_of_getElem? h))
end
/-- the i-th of the tests -/
theorem nth {l : List Bool} (h : l.all id = true) (i : Nat) {b : Bool} (e : l[i]? = some b) : b = true := List.all_eq_true.mp h b (List.mem_of_getElem? e)
end Hh

/-! promises of defs where no repr is under way, and repr of lists and tuples -/
namespace Ow
open PySem PySem.Spec PyProof.Rows L2
/-- a promise that may use that nothing around is showing itself -/
structure FnOkG (P : Program) (w : World) (K : PySem.W.Frag) (mg : Str → Option Value) (base : Heap) (CX : CXT) (k : Nat) (f : Addr) (fd : FuncData) (ps : List Str) (sp : Sp) : Prop where
  len : ∀ us H Q E, sp us H Q E → us.length = ps.length
  go : ∀ (A : Around) (out : List Env) (s : Shared) (H : Hp) (ar : Args) (us : List Value) (vs : List V) (Q : VK) (E : XK), A.guards = some [] → Room k A → Env0 P w K mg base A out s H → BindsTo s fd ar (ps.zip us) → Vals vs us →
    sp vs H Q E → codeAny (model P w) A (.call (.ref f) ar) (CR CX out P w H s Q E) s
section
variable {P : Program} {w : World} {K : PySem.W.Frag} {mg : Str → Option Value} {base : Heap}
theorem FnOkG.of {CX : CXT} {k : Nat} {f : Addr} {fd : FuncData} {ps : List Str} {sp : Sp} (F : FnOk P w K mg base CX k f fd ps sp) : FnOkG P w K mg base CX k f fd ps sp :=
  ⟨F.len, fun A out s H ar us vs Q E _ hr e0 hb r h => F.run A out s H ar us vs Q E hr e0 hb r h⟩
theorem okG {x qual : Str} {st : Stmt} {f : Addr} {fd : FuncData} {N ps : List Str} {k : Nat} {sp : Sp} (F : Fun K x qual st f fd) (S : FnScope N ps (defScope st)) (len : ∀ vs H Q E, sp vs H Q E → vs.length = ps.length)
    (hbody : ∀ (cdv : Value) (A : Around) (outer : List Env) (s : Shared) (H : Hp) (vs : List V) (Q : VK) (E : XK), A.guards = some [] → Room k (A.deeper (envOfC qual (defScope st) s.heap.objs.size f cdv)) → sp vs H Q E →
      ∃ t, PSs (cxOf CX0 P w K mg base N qual (defScope st) f cdv A outer s H E).nox (defBody st) t ∧ t { nx := fun _ H' => Q .non H', rt := Q } (start N vs) H) : FnOkG P w K mg base CX0 (k + 1) f fd ps sp := by
  refine ⟨len, fun A out s H ar us vs Q E hg hr e0 hb r hsp => ?_⟩
  obtain ⟨oc, od, kV, doc, pm, an, cdv, ct, osl, rfl, lk, hcd⟩ := F.ex
  have hl := len _ _ _ _ hsp
  have KX : K.In s.heap := e0.mod.kin.keeps fun b o e => (e0.bs b o e).1
  have lim : s.heap.NoLimit := e0.mod.nolimit.keeps fun b o e => (e0.bs b o e).1
  refine codeAny_call_function hr.depth (KX _ _ lk) rfl S.co S.gen rfl (PySem.W.codeRec_of KX hcd) (hb _ _ _ _ ?_)
  refine wpAny_newFunctionEnv_cells S.kind (fun y hy => ?_) fun env he s1 x => ?_
  · rcases S.par y.1 (List.of_mem_zip hy).1 with q | q
    · exact .inl q
    · exact .inr ⟨q, PySem.W.cellsFrom_some _ _ _ (.inl q)⟩
  subst he
  refine ⟨lim.keeps x.toInCall.keep, codeAny_func ?_⟩
  obtain ⟨t, ht, hq⟩ := hbody cdv A out s H vs Q E hg (hr.deeper _) hsp
  have I := inv_start (CX := CX0) (P := P) (w := w) (K := K) (mg := mg) (base := base) (E := E) S hr.hd e0 hl r x
  refine wpAny_mono (ht.nox.run [] s1 (start N vs) H _ I hq) (fun fl s' hs => ?_) fun e s' hs => hs
  cases fl with
  | ret u =>
    obtain ⟨v, σ', H', J, rv, q⟩ := hs
    exact ⟨v, H', J.os, J.bare, J.base, J.hok, rv, q⟩
  | next =>
    obtain ⟨σ', H', J, q⟩ := hs
    exact ⟨.non, H', J.os, J.bare, J.base, J.hok, rfl, q⟩
  | brk => exact hs.choose_spec.choose_spec.2.elim
  | cont => exact hs.choose_spec.choose_spec.2.elim
section
variable {X : Cx} {CX : CXT} {k : Nat} {f : Addr} {fd : FuncData} {ps : List Str} {sp : Sp} {dvs : List V} {ds : List Value} {E : XK} {x : Str} {p pos : Pos} {e : Expr} {es : List Expr} {t : TA}
theorem run_G {pins : List (Addr × Obj)} {σ : L2.St} {H : Hp} {s : Shared} {Q : VK} {us : List Value} {vs : List V} (hg : X.A.guards = some []) (F : FnOkG X.prog X.w X.K X.mg X.base CX k f fd ps sp) (hr : Room k X.A) (hb : Binds X.K fd ps ds) (hd : Vals dvs ds)
    (hx : Passes CX X E) (I : Inv X pins σ H s) (r : Vals vs us) (h : sp (vs ++ dvs) H Q E) : wpAny (model X.prog X.w) X.A (call (.ref f) us) (EP X pins σ Q) X.xe s := by
  have r2 : Vals (vs ++ dvs) (us ++ ds) := r.append hd
  have hl := (F.len _ _ _ _ h).symm.trans r2.length
  refine wpAny_call (codeAny_mono (F.go X.A X.stack s H ⟨us, []⟩ _ _ Q E hg hr I.env0 (hb s us I.kIn hl.symm) r2 h) fun res s' hq => ?_)
  cases res with
  | error er => exact hx pins σ H s er s' I hq
  | ok fl => cases fl <;> first | exact I.after hq | exact False.elim hq
theorem pe_callG (hg : X.A.guards = some []) (F : FnOkG X.prog X.w X.K X.mg X.base CX k f fd ps sp) (hr : Room k X.A) (gl : Gl X x) (hm : X.mg x = some (.ref f)) (hk : PySem.W.keepIn X.K (.ref f) = true) (hb : Binds X.K fd ps ds) (hd : Vals dvs ds)
    (hx : Passes CX X E) (ha : PA X (e :: es) t) (hdb : (x == ("__debug__" : Str)) = false := by decide) (he : starEach (e :: es) X.env = (false, eval e X.env) :: starEach es X.env := by rfl)
    (hpl : (backTo pos (starEach es X.env)).any (·.1) = false := by rfl) : PE X (.Call (.Name x p) (e :: es) [] pos) (tCall sp dvs E t) := by
  refine ⟨fun pins s σ H Q I h => wpAny_Call_Name_kw (ld_glob I gl hm ?_ hdb)⟩
  refine PySem.W.callWith_K (h₀ := X.base) I.ok.mod.kin hk (thn (ha.run pos pins s σ H _ I h) fun us s1 z => ?_) he hpl
  obtain ⟨vs, H1, I1, r, q⟩ := z
  exact ⟨I1.kIn, run_G hg F hr hb hd hx I1 r q⟩
/-- repr of a list or tuple of plain data -/
def rReprD (K : PySem.W.Frag) : List V → Hp → VK → Prop := fun xs H Q => ∃ a d, xs = [.ref a] ∧ Dp K H (.ref a) d ∧ d.showable = true ∧ d.hasDict = false ∧ d.depth ≤ 64 ∧ d.shown.length ≤ sizeLine ∧ Q (.str d.shown) H
theorem call_reprD (hg : X.A.guards = some []) (hr : Room k X.A) : CallR X (.builtin "repr") (rReprD X.K) := by
  intro pins s σ H xs us Q I r h
  obtain ⟨a, d, rfl, D, sh, nd, dp, sz, q⟩ := h
  cases r with
  | cons r1 rn =>
    cases rn
    cases (show _ = Value.ref a from r1)
    obtain ⟨as, R⟩ := D.reads I d _ _ rfl
    have hu := hr.un
    refine repr_of_reads' R sh (fun z => by rw [nd] at z; cases z) hg (by omega) (fun _ _ z => z) (fun h' u tk hk => ?_) sz
    exact ⟨.str d.shown, H, I.kept hk, ⟨u, rfl⟩, q⟩
end
end
end Ow

namespace Tg
open PySem L2 Ow
/-! ### the box of draws -/
def kvsB (L : Addr) (now seed turn : Int) : List (Key × V) := [(.inr "great", .ref L), (.inr "now", .int now), (.inr "seed", .int seed), (.inr "turn", .int turn)]
theorem n_great_now : ¬ ((.inr "great" : Key) = .inr "now") := by decide +kernel
theorem n_great_seed : ¬ ((.inr "great" : Key) = .inr "seed") := by decide +kernel
theorem n_great_turn : ¬ ((.inr "great" : Key) = .inr "turn") := by decide +kernel
theorem n_now_great : ¬ ((.inr "now" : Key) = .inr "great") := by decide +kernel
theorem n_now_seed : ¬ ((.inr "now" : Key) = .inr "seed") := by decide +kernel
theorem n_now_turn : ¬ ((.inr "now" : Key) = .inr "turn") := by decide +kernel
theorem n_seed_great : ¬ ((.inr "seed" : Key) = .inr "great") := by decide +kernel
theorem n_seed_now : ¬ ((.inr "seed" : Key) = .inr "now") := by decide +kernel
theorem n_seed_turn : ¬ ((.inr "seed" : Key) = .inr "turn") := by decide +kernel
theorem n_turn_great : ¬ ((.inr "turn" : Key) = .inr "great") := by decide +kernel
theorem n_turn_now : ¬ ((.inr "turn" : Key) = .inr "now") := by decide +kernel
theorem n_turn_seed : ¬ ((.inr "turn" : Key) = .inr "seed") := by decide +kernel
theorem vB_great (L : Addr) (now seed turn : Int) : valV (kvsB L now seed turn) (.inr "great" : Key) = some (.ref L) := by
  unfold kvsB
  rw [valV_pos rfl]
theorem vB_now (L : Addr) (now seed turn : Int) : valV (kvsB L now seed turn) (.inr "now" : Key) = some (.int now) := by
  unfold kvsB
  rw [valV_neg n_great_now, valV_pos rfl]
theorem vB_seed (L : Addr) (now seed turn : Int) : valV (kvsB L now seed turn) (.inr "seed" : Key) = some (.int seed) := by
  unfold kvsB
  rw [valV_neg n_great_seed, valV_neg n_now_seed, valV_pos rfl]
theorem vB_turn (L : Addr) (now seed turn : Int) : valV (kvsB L now seed turn) (.inr "turn" : Key) = some (.int turn) := by
  unfold kvsB
  rw [valV_neg n_great_turn, valV_neg n_now_turn, valV_neg n_seed_turn, valV_pos rfl]
theorem pB_now (L : Addr) (now seed turn z : Int) : putK (kvsB L now seed turn) (.inr "now" : Key) (.int z) = kvsB L z seed turn := by
  have e1 : ¬ ((.inr "great" : Key) = .inr "now") := by decide +kernel
  have e2 : ¬ ((.inr "seed" : Key) = .inr "now") := by decide +kernel
  have e3 : ¬ ((.inr "turn" : Key) = .inr "now") := by decide +kernel
  unfold kvsB putK
  simp [e1, e2, e3]
theorem pB_seed (L : Addr) (now seed turn z : Int) : putK (kvsB L now seed turn) (.inr "seed" : Key) (.int z) = kvsB L now z turn := by
  have e1 : ¬ ((.inr "great" : Key) = .inr "seed") := by decide +kernel
  have e2 : ¬ ((.inr "now" : Key) = .inr "seed") := by decide +kernel
  have e3 : ¬ ((.inr "turn" : Key) = .inr "seed") := by decide +kernel
  unfold kvsB putK
  simp [e1, e2, e3]
theorem pB_turn (L : Addr) (now seed turn z : Int) : putK (kvsB L now seed turn) (.inr "turn" : Key) (.int z) = kvsB L now seed z := by
  have e1 : ¬ ((.inr "great" : Key) = .inr "turn") := by decide +kernel
  have e2 : ¬ ((.inr "now" : Key) = .inr "turn") := by decide +kernel
  have e3 : ¬ ((.inr "seed" : Key) = .inr "turn") := by decide +kernel
  unfold kvsB putK
  simp [e1, e2, e3]
theorem z_great_now : ¬ (("great" : Str) = "now") := by decide +kernel
theorem z_great_seed : ¬ (("great" : Str) = "seed") := by decide +kernel
theorem z_great_turn : ¬ (("great" : Str) = "turn") := by decide +kernel
theorem z_now_great : ¬ (("now" : Str) = "great") := by decide +kernel
theorem z_now_seed : ¬ (("now" : Str) = "seed") := by decide +kernel
theorem z_now_turn : ¬ (("now" : Str) = "turn") := by decide +kernel
theorem z_seed_great : ¬ (("seed" : Str) = "great") := by decide +kernel
theorem z_seed_now : ¬ (("seed" : Str) = "now") := by decide +kernel
theorem z_seed_turn : ¬ (("seed" : Str) = "turn") := by decide +kernel
theorem z_turn_great : ¬ (("turn" : Str) = "great") := by decide +kernel
theorem z_turn_now : ¬ (("turn" : Str) = "now") := by decide +kernel
theorem z_turn_seed : ¬ (("turn" : Str) = "seed") := by decide +kernel
theorem merge_kvsB (L : Addr) (now seed turn : Int) : mergeK [] (kvsB L now seed turn) = kvsB L now seed turn := by
  unfold kvsB mergeK
  simp [putK, z_great_now, z_great_seed, z_great_turn, z_now_seed, z_now_turn, z_seed_turn]
/-- the box at b, its great cells at L -/
structure BoxAt (H : Hp) (b L : Addr) (gs : List Int) (now seed turn : Int) : Prop where
  dc : H b = some (.dK (kvsB L now seed turn))
  ls : H L = some (.lst (gs.map V.int))
  now0 : 0 ≤ now
  seed0 : 0 ≤ seed
  seed1 : seed ≤ 2147483648
  pos : ∀ g ∈ gs, 0 ≤ g
def Box (b L : Addr) (H : Hp) : Prop := ∃ gs now seed turn, BoxAt H b L gs now seed turn
/-- all but the box stands as it stood -/
def Kp (b L : Addr) (H H' : Hp) : Prop := ∀ a o, a ≠ b → a ≠ L → H a = some o → H' a = some o
theorem Kp.refl (b L : Addr) (H : Hp) : Kp b L H H := fun _ _ _ _ h => h
theorem Kp.trans {b L : Addr} {H H1 H2 : Hp} (x : Kp b L H H1) (y : Kp b L H1 H2) : Kp b L H H2 := fun a o n1 n2 h => y a o n1 n2 (x a o n1 n2 h)
theorem BoxAt.ne {H : Hp} {b L : Addr} {gs : List Int} {now seed turn : Int} (B : BoxAt H b L gs now seed turn) : b ≠ L := ne_of B.dc B.ls (by intro z; cases z)
theorem BoxAt.put {H : Hp} {b L : Addr} {gs : List Int} {now seed turn now' seed' turn' : Int} (B : BoxAt H b L gs now seed turn) (h0 : 0 ≤ now') (h1 : 0 ≤ seed') (h2 : seed' ≤ 2147483648) :
    BoxAt (upd H b (.dK (kvsB L now' seed' turn'))) b L gs now' seed' turn' ∧ Kp b L H (upd H b (.dK (kvsB L now' seed' turn'))) :=
  ⟨⟨upd_same, by rw [upd_ne B.ne.symm]; exact B.ls, h0, h1, h2, B.pos⟩, fun a o n1 _ h => by rw [upd_ne n1]; exact h⟩
theorem BoxAt.pop {H : Hp} {b L : Addr} {gs : List Int} {now seed turn : Int} (B : BoxAt H b L gs now seed turn) :
    BoxAt (upd H L (.lst (gs.map V.int).dropLast)) b L gs.dropLast now seed turn ∧ Kp b L H (upd H L (.lst (gs.map V.int).dropLast)) :=
  ⟨⟨by rw [upd_ne B.ne]; exact B.dc, by rw [upd_same, List.map_dropLast], B.now0, B.seed0, B.seed1, fun g h => B.pos g (List.dropLast_subset _ h)⟩, fun a o _ n2 h => by rw [upd_ne n2]; exact h⟩

theorem dget_of {H : Hp} {a : Addr} {kvs : List (Key × V)} {k : Key} {v : V} (e : H a = some (.dK kvs)) (h : valV kvs k = some v) : DGet H a (kV k) (some v) := by
  rw [← h]
  exact DGet.k e
theorem dput_of {H : Hp} {a : Addr} {kvs kvs' : List (Key × V)} {k : Key} {v : V} (e : H a = some (.dK kvs)) (h : putK kvs k v = kvs') (hl : kvs.length < sizeLine) : DPut H a (kV k) v (upd H a (.dK kvs')) := by
  rw [← h]
  exact DPut.k e hl
section
variable {H : Hp} {b L : Addr} {gs : List Int} {now seed turn : Int}
theorem kvsB_len : (kvsB L now seed turn).length < sizeLine := by
  show 4 < sizeLine
  decide
theorem BoxAt.ggreat (B : BoxAt H b L gs now seed turn) : DGet H b (.str "great") (some (.ref L)) := dget_of (k := .inr "great") B.dc (vB_great _ _ _ _)
theorem BoxAt.gnow (B : BoxAt H b L gs now seed turn) : DGet H b (.str "now") (some (.int now)) := dget_of (k := .inr "now") B.dc (vB_now _ _ _ _)
theorem BoxAt.gseed (B : BoxAt H b L gs now seed turn) : DGet H b (.str "seed") (some (.int seed)) := dget_of (k := .inr "seed") B.dc (vB_seed _ _ _ _)
theorem BoxAt.gturn (B : BoxAt H b L gs now seed turn) : DGet H b (.str "turn") (some (.int turn)) := dget_of (k := .inr "turn") B.dc (vB_turn _ _ _ _)
theorem BoxAt.pnow (B : BoxAt H b L gs now seed turn) (z : Int) : DPut H b (.str "now") (.int z) (upd H b (.dK (kvsB L z seed turn))) := dput_of (k := .inr "now") B.dc (pB_now _ _ _ _ _) kvsB_len
theorem BoxAt.pseed (B : BoxAt H b L gs now seed turn) (z : Int) : DPut H b (.str "seed") (.int z) (upd H b (.dK (kvsB L now z turn))) := dput_of (k := .inr "seed") B.dc (pB_seed _ _ _ _ _) kvsB_len
theorem BoxAt.pturn (B : BoxAt H b L gs now seed turn) (z : Int) : DPut H b (.str "turn") (.int z) (upd H b (.dK (kvsB L now seed z))) := dput_of (k := .inr "turn") B.dc (pB_turn _ _ _ _ _) kvsB_len
end
/-- what follows is shown once, for all ways of what stands ahead -/
theorem seq_rest {t u : TS} {D : Ends} {σ : St} {H : Hp} (W : St → Hp → Prop) (h2 : ∀ σ' H', W σ' H' → u D σ' H') (h1 : (∀ σ' H', W σ' H' → u D σ' H') → t { D with nx := u D } σ H) : tSeq t u D σ H := h1 h2
theorem pos_lit {j : Int} (h : 0 < j) : 0 < j := h
/-! ### a draw -/
def spTake : Sp := fun vs H Q _ => ∃ (b L : Addr) (m : Int), vs = [.ref b, .int m] ∧ 0 < m ∧ m.natAbs.log2 < 9000 ∧ Box b L H ∧
  ∀ (d : Int) (H' : Hp), 0 ≤ d → d < m → Box b L H' → Kp b L H H' → Q (.int d) H'
/-! ### the promise of the box's maker -/
def spBox (K : PySem.W.Frag) : Sp := fun vs H Q _ => ∃ (a : Addr) (ns : List Int) (e : Int), vs = [.ref a, .int e] ∧ SqL K H a (ns.map V.int) ∧ ns.length ≤ 63 ∧ 0 ≤ e ∧ e ≤ 1000 ∧
  ∀ (b L : Addr) (H' : Hp), H b = none → H L = none → Same H H' → Box b L H' → Q (.ref b) H'
theorem cut_ints (ns : List Int) (lo hi : Option Int) : ∃ ms : List Int, cutV (ns.map V.int) lo hi = ms.map V.int ∧ ms.length ≤ ns.length := by
  refine ⟨(ns.drop (HT.sIx (ns.map V.int).length 0 lo)).take (HT.sIx (ns.map V.int).length (ns.map V.int).length hi - HT.sIx (ns.map V.int).length 0 lo), ?_, ?_⟩
  · unfold cutV
    rw [List.map_take, List.map_drop]
  · rw [List.length_take, List.length_drop]
    omega
theorem ints_at {ns : List Int} {i : Nat} {y : V} (h : (ns.map V.int)[i]? = some y) : ∃ z, ns[i]? = some z ∧ y = V.int z := by
  rw [List.getElem?_map] at h
  cases e : ns[i]? with
  | none => rw [e] at h; cases h
  | some z => rw [e] at h; exact ⟨z, rfl, (Option.some.inj h).symm⟩
theorem same_upd {H H' : Hp} {p : Addr} {o : HO} (s : Same H H') (n : H p = none) : Same H (upd H' p o) := fun b u e => by
  rw [upd_ne (ne_of_none e n)]
  exact s b u e

/-! ### a def that is called by its name -/
structure Cal (P : Program) (w : World) (K : PySem.W.Frag) (mg : Str → Option Value) (base : Heap) (k : Nat) (x : Str) (ps : List Str) (sp : Sp) : Prop where
  ex : ∃ f fd, FnOk P w K mg base CX0 k f fd ps sp ∧ mg x = some (.ref f) ∧ PySem.W.keepIn K (.ref f) = true ∧ Binds K fd ps []
structure CalG (P : Program) (w : World) (K : PySem.W.Frag) (mg : Str → Option Value) (base : Heap) (k : Nat) (x : Str) (ps : List Str) (sp : Sp) : Prop where
  ex : ∃ f fd, FnOkG P w K mg base CX0 k f fd ps sp ∧ mg x = some (.ref f) ∧ PySem.W.keepIn K (.ref f) = true ∧ Binds K fd ps []
section
variable {X : Cx} {k j : Nat} {x : Str} {ps : List Str} {sp : Sp} {p pos : Pos} {e : Expr} {es : List Expr} {t : TA}
theorem pe_cal (c : Cal X.prog X.w X.K X.mg X.base k x ps sp) (hr : Room k X.A) (hg : Gl X x) (ha : PA X (e :: es) t) (hdb : (x == ("__debug__" : Str)) = false := by decide)
    (he : starEach (e :: es) X.env = (false, eval e X.env) :: starEach es X.env := by rfl) (hpl : (backTo pos (starEach es X.env)).any (·.1) = false := by rfl) :
    PE X (.Call (.Name x p) (e :: es) [] pos) (tCall sp [] E0 t) := by
  obtain ⟨f, fd, F, hm, hk, hb⟩ := c.ex
  exact pe_call F hr hg hm hk hb .nil pass0 ha hdb he hpl
theorem pe_calG (c : CalG X.prog X.w X.K X.mg X.base k x ps sp) (gd : X.A.guards = some []) (hr : Room k X.A) (hg : Gl X x) (ha : PA X (e :: es) t) (hdb : (x == ("__debug__" : Str)) = false := by decide)
    (he : starEach (e :: es) X.env = (false, eval e X.env) :: starEach es X.env := by rfl) (hpl : (backTo pos (starEach es X.env)).any (·.1) = false := by rfl) :
    PE X (.Call (.Name x p) (e :: es) [] pos) (tCall sp [] E0 t) := by
  obtain ⟨f, fd, F, hm, hk, hb⟩ := c.ex
  exact pe_callG gd F hr hg hm hk hb .nil pass0 ha hdb he hpl
end
end Tg

/-! the end of a law whose own def may show lists: nothing around it is showing itself -/
namespace Ow
open PySem PySem.Spec PyProof.Rows L2
section
variable {P : Program} {w : World} {K : PySem.W.Frag} {mg mb : Str → Option Value}
/-- the call, from one abstract heap H that tracks nothing but the script at a -/
theorem call_from {k : Nat} {fa a : Addr} {fd : FuncData} {x : Str} {sp : Sp} {s1 : Shared} {H : Hp} {oa : Obj} {es : Array Value} {ep : Nat} (ea : s1.heap.get? a = some oa) (da : oa.data = .seq es ep)
    (kIn : K.In s1.heap) (ns : s1.heap.Ns mainGlobals mg) (nb : s1.heap.Ns builtinsNs mb) (bb : ∀ y : Str, y ≠ "__name__" → mb y = bootBuiltins y) (lim : s1.heap.NoLimit) (hg : s1.gens = #[]) (hr : Room k callerA)
    (F : ∀ base : Heap, K.In base → base.Ns mainGlobals mg → FnOkG P w K mg base CX0 k fa fd [x] sp) (hbind : ∀ (s : Shared) (u : Value), BindsTo s fd ⟨[u], []⟩ [(x, u)])
    (only : Only H) (hok : HOk P w H s1.heap) (alone : ∀ b, H b ≠ none → b = a) (noK : H a ≠ none → K.lookup a = none) (hsp : sp [.ref a] H (fun v _ => v = .bl true) fun _ _ _ => False) :
    codeAny (model P w) callerA (.call (.ref fa) ⟨[.ref a], []⟩) (fun r s' => r = .ok (.ret (.bool true)) ∧ OldK s1.heap s'.heap ∧ s'.os = s1.os ∧ AllBare s'.gens) s1 := by
  have free : ∀ b, b ≠ a → H b = none := fun b hb => by
    cases q : H b with
    | none => rfl
    | some u => exact absurd (alone b (by simp [q])) hb
  have unseq : ∀ {b : Addr} {m : Str → Option Value}, s1.heap.Ns b m → b ≠ a := fun {b m} ⟨o, is, ip, e, d, _⟩ z => by
    subst z
    cases ea.symm.trans e
    cases da.symm.trans d
  have same : ∀ {b : Addr} {m : Str → Option Value}, s1.heap.Ns b m → (hidT s1.heap H).Ns b m := fun {b m} z => by
    have hb := unseq z
    obtain ⟨o, is, ip, e, r⟩ := z
    exact ⟨o, is, ip, hidT_get e (free b hb), r⟩
  have kB : K.In (hidT s1.heap H) := fun b o e => by
    refine hidT_get (kIn b o e) ?_
    by_cases hb : b = a
    · cases q : H b with
      | none => rfl
      | some u => subst hb; rw [noK (by simp [q])] at e; cases e
    · exact free b hb
  have limB : (hidT s1.heap H).NoLimit := by
    obtain ⟨mc, h1, h2⟩ := lim
    exact ⟨mc, same h1, h2⟩
  have md : Mod K mg (hidT s1.heap H) := { kin := kB, glob := same ns, blt := ⟨mb, same nb, bb⟩, nolimit := limB }
  have e0 : Env0 P w K mg (hidT s1.heap H) callerA [] s1 H :=
    { frames := rfl, mod := md, bs := fun b o e => of_hidT e, bsz := Nat.le_of_eq (hidT_size _ _), funs := trivial, frf := fun b hb => (List.not_mem_nil hb).elim, hok := hok, bare := .of_eq hg }
  have run := (F _ kB (same ns)).go callerA [] s1 H ⟨[.ref a], []⟩ [.ref a] [.ref a] _ _ rfl hr e0 (hbind s1 (.ref a)) (.cons rfl .nil) hsp
  refine codeAny_mono run fun r s' h => ?_
  match r, h with
  | .error e, h => exact h.elim
  | .ok .next, h => exact h.elim
  | .ok .brk, h => exact h.elim
  | .ok .cont, h => exact h.elim
  | .ok (.ret u), ⟨v, H', os, bare, un, hok', rv, q⟩ =>
    cases (show v = .bl true from q)
    cases (show u = Value.bool true from rv)
    refine ⟨rfl, OldK.of_keep fun b o e => ?_, os, bare⟩
    rcases only b with z | ⟨ob, xs, z⟩
    · exact un.keep b o e z (fun y => (List.not_mem_nil y).elim) List.not_mem_nil
    · obtain ⟨e1, _⟩ := hok b _ z
      obtain ⟨e2, _⟩ := hok' b _ (un.frzs b ob _ z)
      cases e.symm.trans e1
      exact e2
theorem call_G {k : Nat} {fa a : Addr} {fd : FuncData} {x : Str} {sp : Sp} {s1 : Shared} {vs : List Value} {ns : List Int} (kIn : K.In s1.heap) (hn : s1.heap.Ns mainGlobals mg) (nb : s1.heap.Ns builtinsNs mb)
    (bb : ∀ y : Str, y ≠ "__name__" → mb y = bootBuiltins y) (lim : s1.heap.NoLimit) (hg : s1.gens = #[]) (ha : s1.heap.get? a = some { cls := .type "list", data := .seq vs.toArray }) (hi : IntsAre vs ns) (hl : ns.length ≤ sizeLine) (hr : Room k callerA)
    (F : ∀ base : Heap, K.In base → base.Ns mainGlobals mg → FnOkG P w K mg base CX0 k fa fd [x] sp) (hbind : ∀ (s : Shared) (u : Value), BindsTo s fd ⟨[u], []⟩ [(x, u)])
    (hsp : ∀ H : Hp, Only H → SqL K H a (ns.map V.int) → sp [.ref a] H (fun v _ => v = .bl true) fun _ _ _ => False) :
    codeAny (model P w) callerA (.call (.ref fa) ⟨[.ref a], []⟩) (fun r s' => r = .ok (.ret (.bool true)) ∧ OldK s1.heap s'.heap ∧ s'.os = s1.os ∧ AllBare s'.gens) s1 := by
  have rv := vals_ints hi
  cases hk : K.lookup a with
  | some o =>
    cases ha.symm.trans (kIn a o hk)
    have on : Only (fun _ => none) := fun _ => .inl rfl
    exact call_from ha rfl kIn hn nb bb lim hg hr F hbind on (fun b u z => nomatch z) (fun b z => absurd rfl z) (fun z => absurd rfl z) (hsp _ on (.inr ⟨_, vs.toArray, _, hk, rfl, rfl, rfl, by rw [List.size_toArray, hi.length]; exact hl, by simpa using rv⟩))
  | none =>
    let H : Hp := upd (fun _ => none) a (.frz { cls := .type "list", data := .seq vs.toArray } (.lst (ns.map V.int)))
    have at_ : H a = some (.frz { cls := .type "list", data := .seq vs.toArray } (.lst (ns.map V.int))) := upd_same
    have off : ∀ b, b ≠ a → H b = none := fun b hb => upd_ne hb
    have on : Only H := fun b => by
      by_cases hb : b = a
      · subst hb; exact .inr ⟨_, _, at_⟩
      · exact .inl (off b hb)
    refine call_from ha rfl kIn hn nb bb lim hg hr F hbind on (fun b u z => ?_) (fun b z => ?_) (fun _ => hk) (hsp _ on (.inl (.inr ⟨_, at_⟩)))
    · by_cases hb : b = a
      · subst hb
        cases at_.symm.trans z
        exact ⟨ha, by rw [List.length_map]; exact hl, vs, _, rv, ha⟩
      · cases (off b hb).symm.trans z
    · by_cases hb : b = a
      · exact hb
      · exact absurd (off b hb) z
end
theorem walk_G {l : PySem.W.OpenLaw} {n k : Nat} {q : Program} {loose : List Str} {XP : (Str → Option Value) → Heap → Prop} {YP : World → Heap → Prop} {d : DefRec} {K : Params → PySem.W.Frag} {sp : World → Sp} {x : Str}
    (hn : l.most = some n) (hn2 : n ≤ sizeLine) (hdf : d.params.defaults = []) (hr : Room k callerA) (hY : ∀ (w : World) (h : Heap), YP w h → (K w.params).In h)
    (F : ∀ (w : World) (mg : Str → Option Value) (fa : Addr) (h : Heap), (K w.params).In h → h.Ns mainGlobals mg → mg d.name = some (.ref fa) →
      ∃ fd : FuncData, (∀ (s : Shared) (u : Value), BindsTo s fd ⟨[u], []⟩ [(x, u)]) ∧ ∀ base : Heap, (K w.params).In base → base.Ns mainGlobals mg → FnOkG l.prog w (K w.params) mg base CX0 k fa fd [x] (sp w))
    (hsp : ∀ (w : World) (H : Hp) (a : Addr) (ns : List Int), ns.length ≤ n → SqL (K w.params) H a (ns.map V.int) → sp w [.ref a] H (fun v _ => v = .bl true) fun _ _ _ => False) :
    PySem.W.WalkO q loose XP YP l.row.toRowW d [] (fun f vs => PySem.call f vs) := by
  refine Att.attach_call hn hdf fun w s0 s1 mg mb fa o pm cd doc a vs ns G Y ho hd hcd hmg hobj hints hlen hg => ?_
  have kx := hY w _ Y
  obtain ⟨fd, hb, hF⟩ := F w mg fa _ kx G.T.g hmg
  exact call_G kx G.T.g G.T.b G.T.builtins G.T.nolimit hg hobj hints (Nat.le_trans hlen hn2) hr hF hb fun H _ hS => hsp w H a ns hlen hS
end Ow

namespace Ow
open PySem PySem.Spec PyProof.Rows L2
/-- walk_G over a head by facts -/
theorem walk_GE {l : PySem.W.OpenLaw} {n k : Nat} {q : Program} {loose : List Str} {XP : (Str → Option Value) → Heap → Prop} {YP : World → Heap → Prop} {d : DefRec} {x : Str}
    (hn : l.most = some n) (hn2 : n ≤ sizeLine) (hdf : d.params.defaults = []) (hr : Room k callerA)
    (F : ∀ (w : World) (mg : Str → Option Value) (fa : Addr) (h : Heap), YP w h → h.Ns mainGlobals mg → mg d.name = some (.ref fa) →
      ∃ (K : PySem.W.Frag) (fd : FuncData) (sp : Sp), K.In h ∧ (∀ (s : Shared) (u : Value), BindsTo s fd ⟨[u], []⟩ [(x, u)]) ∧
        (∀ (H : Hp) (a : Addr) (ns : List Int), ns.length ≤ n → SqL K H a (ns.map V.int) → sp [.ref a] H (fun v _ => v = .bl true) fun _ _ _ => False) ∧
        ∀ base : Heap, K.In base → base.Ns mainGlobals mg → FnOkG l.prog w K mg base CX0 k fa fd [x] sp) :
    PySem.W.WalkO q loose XP YP l.row.toRowW d [] (fun f vs => PySem.call f vs) := by
  refine Att.attach_call hn hdf fun w s0 s1 mg mb fa o pm cd doc a vs ns G Y ho hd hcd hmg hobj hints hlen hg => ?_
  obtain ⟨K, fd, sp, kx, hb, hsp, hF⟩ := F w mg fa _ Y G.T.g hmg
  exact call_G kx G.T.g G.T.b G.T.builtins G.T.nolimit hg hobj hints (Nat.le_trans hlen hn2) hr hF hb fun H _ hS => hsp H a ns hlen hS
end Ow

/-! own operators of own classes, over the hand layer -/
namespace Ow
open PySem PySem.Spec PyProof.Rows L2 PySem.W
section
variable {X : Cx} {pins : List (Addr × Obj)} {σ : L2.St} {H : Hp} {s : Shared} {a C dx : Addr} {fs : List (Str × V)}
theorem ins_inst (I : Inv X pins σ H s) (e : H a = some (.ins C dx fs)) : ∃ ox od, InstAt s.heap a ox C (some od) := by
  obtain ⟨mA, J, _⟩ := ins_get I.hok e
  obtain ⟨od, J, _⟩ := J.look
  exact ⟨_, od, J⟩
/-- the type of a value, as the model finds it -/
theorem ty_looks {M : Model} {x : V} {u t : Value} (I : Inv X pins σ H s) (rx : RelV x u) (ty : TyX X.K H x t) : Looks M s.heap (typeOf u) t := by
  cases ty with
  | base b =>
    cases b with
    | non => cases (show u = Value.none from rx); exact Looks.of_pure rfl
    | bl y => cases (show u = Value.bool y from rx); exact Looks.of_pure rfl
    | int i => obtain ⟨t, q⟩ := (show ∃ t, u = Value.int i t from rx); cases q; exact Looks.of_pure rfl
    | str y => obtain ⟨t, q⟩ := (show ∃ t, u = Value.str y t from rx); cases q; exact Looks.of_pure rfl
    | flt y => obtain ⟨t, q⟩ := (show ∃ t, u = Value.float y t from rx); cases q; exact Looks.of_pure rfl
    | @lst a xs ea =>
      cases (show u = Value.ref a from rx)
      obtain ⟨_, _, n, _, h1⟩ := (show ObjOk X.prog X.w H s.heap a (.lst xs) from I.hok a _ ea)
      exact (Looks.ld (part := none) h1).andThen .now
    | @frz a ob xs ea =>
      cases (show u = Value.ref a from rx)
      obtain ⟨_, _, _, n, _, h1⟩ := (show ObjOk X.prog X.w H s.heap a (.frz ob (.lst xs)) from I.hok a _ ea)
      exact (Looks.ld (part := none) h1).andThen .now
    | @tup a xs ea =>
      cases (show u = Value.ref a from rx)
      obtain ⟨_, _, _, o, h1, h2, _⟩ := (show ObjOk X.prog X.w H s.heap a (.tup xs) from I.hok a _ ea)
      rw [← h2]
      exact (Looks.ld (part := none) h1).andThen .now
    | @dK a kvs ea =>
      cases (show u = Value.ref a from rx)
      obtain ⟨_, _, vs, _, o, es, ep, h1, h2, _⟩ := (show ObjOk X.prog X.w H s.heap a (.dK kvs) from I.hok a _ ea)
      rw [← h2.1]
      exact (Looks.ld (part := none) h1).andThen .now
    | @dT a kvs ea =>
      cases (show u = Value.ref a from rx)
      obtain ⟨_, _, xs, _, o, es, ep, h1, h2, _⟩ := (show ObjOk X.prog X.w H s.heap a (.dT kvs) from I.hok a _ ea)
      rw [← h2.1]
      exact (Looks.ld (part := none) h1).andThen .now
    | @ins a C dx fs ea cl ha hn htk hm =>
      cases (show u = Value.ref a from rx)
      obtain ⟨ox, od, J⟩ := ins_inst I ea
      exact J.type
  | byt y => obtain ⟨t, q⟩ := (show ∃ t, u = Value.bytes y t from rx); cases q; exact Looks.of_pure rfl
  | @set a S n ea =>
    cases (show u = Value.ref a from rx)
    obtain ⟨o, _, _, _, e, ex, _⟩ := I.hok a _ ea
    rw [← ex.1]
    exact (Looks.ld (part := none) e).andThen .now
  | @kList a o e c =>
    cases (show u = Value.ref a from rx)
    rw [← c]
    exact (Looks.ld (part := none) (I.kIn a o e)).andThen .now
  | @kTuple a o e c =>
    cases (show u = Value.ref a from rx)
    rw [← c]
    exact (Looks.ld (part := none) (I.kIn a o e)).andThen .now
  | @kDict a o e c =>
    cases (show u = Value.ref a from rx)
    rw [← c]
    exact (Looks.ld (part := none) (I.kIn a o e)).andThen .now
  | @fTuple a ob xs ea =>
    cases (show u = Value.ref a from rx)
    obtain ⟨_, _, _, _, o, h1, h2, _⟩ := (show ObjOk X.prog X.w H s.heap a (.frz ob (.tup xs)) from I.hok a _ ea)
    rw [← h2]
    exact (Looks.ld (part := none) h1).andThen .now
  | @fDict a ob kvs ea =>
    cases (show u = Value.ref a from rx)
    obtain ⟨_, _, _, vs, _, o, es, ep, h1, h2, _⟩ := (show ObjOk X.prog X.w H s.heap a (.frz ob (.dK kvs)) from I.hok a _ ea)
    rw [← h2.1]
    exact (Looks.ld (part := none) h1).andThen .now
end
section
variable {X : Cx} {CX : CXT} {k : Nat} {C f : Addr} {fd : FuncData} {ps : List Str} {sp : Sp} {E : XK}
/-- the callee runs, whatever stands between -/
theorem run_at {A : Around} {pins : List (Addr × Obj)} {σ : L2.St} {H : Hp} {s : Shared} {Q : VK} {us : List Value} {vs : List V} (fr : A.frames = X.A.frames) (F : FnOk X.prog X.w X.K X.mg X.base CX k f fd ps sp) (hr : Room k A) (hb : Binds X.K fd ps []) (hx : Passes CX X E)
    (I : Inv X pins σ H s) (r : Vals vs us) (h : sp vs H Q E) : wpAny (model X.prog X.w) A (call (.ref f) us) (EP X pins σ Q) X.xe s := by
  have hl : us.length = ps.length := by rw [← r.length]; exact F.len _ _ _ _ h
  have e0 : Env0 X.prog X.w X.K X.mg X.base A X.stack s H := by
    have e := I.env0
    exact ⟨by rw [fr]; exact e.frames, e.mod, e.bs, e.bsz, e.funs, e.frf, e.hok, e.bare⟩
  refine wpAny_call (codeAny_mono (F.run A X.stack s H ⟨us, []⟩ us vs Q E hr e0 (by
    have := hb s us I.kIn (by simpa using hl)
    simpa using this) r h) fun r s' hq => ?_)
  cases r with
  | error e => exact hx pins σ H s e s' I hq
  | ok fl =>
    cases fl with
    | ret u => exact I.after hq
    | next => exact False.elim hq
    | brk => exact False.elim hq
    | cont => exact False.elim hq
theorem cmp_back {pins : List (Addr × Obj)} {σ : L2.St} {Q : VK} {u : Value} {s' : Shared} (h : EP X pins σ Q u s') : PySem.W.CmpBack (EP X pins σ Q) u s' := by
  obtain ⟨v, H', I, r, q⟩ := h
  cases u <;> first | exact ⟨v, H', I, r, q⟩ | (cases v <;> simp [L2.RelV] at r)
/-- a < b and its like, and a == b, a an instance of the class at C with such a method of its own -/
def rOwn (K : PySem.W.Frag) (C : Addr) (sp : Sp) (E : XK) : R2 := fun x y H Q => ∃ a dx fs t, x = .ref a ∧ H a = some (.ins C dx fs) ∧ TyX K H y t ∧ notFirst K C t = true ∧ sp [x, y] H Q E
theorem op_cmpOwn {op : CmpOp} (hop : ∀ a b, compareOp op a b = richCompare op a b) (F : FnOk X.prog X.w X.K X.mg X.base CX k f fd ps sp) (hr : Room k X.A) (hb : Binds X.K fd ps []) (hx : Passes CX X E)
    (hs : findIn X.K (.ref C) (cmpInfo op).2.1 = some (some (.ref f))) (hf : isFn X.K (.ref f) = true) : OpR X (compareOp op) (rOwn X.K C sp E) := by
  intro pins s σ H x y v u Q I rx ry h
  obtain ⟨a, dx, fs, t, rfl, ea, ty, nf, q⟩ := h
  cases (show v = Value.ref a from rx)
  obtain ⟨ox, od, J⟩ := ins_inst I ea
  obtain ⟨m, hF⟩ := I.fr
  rw [hop]
  refine PySem.W.cmp_K (Nat.lt_of_le_of_lt (Nat.le_add_right _ 1) (hu_of hr)) hF I.ok.mod.kin J (ty_looks I ry ty) nf hs hf ?_
  have rr : Vals [V.ref a, y] [Value.ref a, u] := .cons rfl (.cons ry .nil)
  exact wpAny_mono (run_at rfl F hr hb hx I rr q) (fun _ _ z => cmp_back z) fun _ _ z => z
end
end Ow
namespace Ow
open PySem PySem.Spec PySem.Calls PyProof.Rows L2 PySem.W
open Builtin
section
variable {prog : Program} {w : World} {M : Model} {A : Around} {E : Value → Shared → Prop} {s : Shared} {K : Frag} {x C f : Addr} {ox : Obj} {od : Option Obj} {b tb : Value}
theorem ifBoundB {name : Str} {id : String} {args : List Value} {Q : Option Value → Shared → Prop} (X : K.In s.heap) (I : InstAt s.heap x ox C od) (hs : findIn K (.ref C) name = some (some (.builtin id)))
    (hb : ∀ self, bindSpecial (.builtin id) self = pure (.builtin id, [self])) (h : wpAny M A (call (.builtin id) (.ref x :: args)) (fun v => Q (some v)) E s) : wpAny M A (callSpecialIfBound? (.ref x) name args) Q E s := by
  simp only [callSpecialIfBound?, bindSpecialIfBound?]
  refine wpAny_holding (wpAny_bind (wpAny_bind (wpAny_bind (I.type.here ((looks_findIn X hs).here ?_)))))
  refine wpAny_bind (wpAny_askSetting (wpAny_ite ?_))
  have fin : wpAny M A (call (.builtin id) ([.ref x] ++ args) >>= fun v => pure (some v)) Q E s := wpAny_bind (wpAny_mono h (fun v s' h' => wpAny_pure h') fun _ _ h' => h')
  split
  · exact wpAny_bind ((Looks.of_pure (hb _)).here (wpAny_pure (by exact fin)))
  · exact wpAny_tryCatch (wpAny_bind ((Looks.of_pure (hb _)).here (wpAny_pure (by exact fin))))
theorem ne_K {Q : Value → Shared → Prop} (hu : A.units < cLine) (hu1 : A.in1.units < cLine) (X : K.In s.heap) (I : InstAt s.heap x ox C od) (hb : Looks (model prog w) s.heap (typeOf b) tb) (hn : notFirst K C tb = true) (hm : mroIn K C (.type "object") = some true)
    (hne : findIn K (.ref C) "__ne__" = some (some (.builtin "object.__ne__"))) (hs : findIn K (.ref C) "__eq__" = some (some (.ref f))) (hf : isFn K (.ref f) = true)
    (h : wpAny (model prog w) A.in1 (call (.ref f) [.ref x, b]) (fun v s' => ∃ c, v = .bool c ∧ Q (.bool (!c)) s') E s) : wpAny (model prog w) A (richCompare .NotEq (.ref x) b) Q E s := by
  have one : wpAny (model prog w) A (tryCompare (.ref x) (cmpInfo .NotEq).2.1 b) (fun r s' => ∃ v, r = some v ∧ Q v s') E s := by
    unfold tryCompare
    refine wpAny_bind (ifBoundB X I hne PySem.F.slot_object_ne.bind ?_)
    refine wpAny_call (codeAny_call_builtin PySem.F.slot_object_ne.plain PySem.F.cmpEntry_ne (check_slot (i := "object.__ne__") (owner := "object") (n := "__ne__") (by decide +kernel) (by decide +kernel) (I.type.andThen (looks_mroIn X hm)) (PySem.F.cmpArgs_ne _ _) ?_))
    unfold Builtin.«object.__ne__»
    refine wpAny_bind (m := slotArgs "__ne__" 1 _) (wpAny_pure ?_)
    refine wpAny_bind (m := cRoomFor _ _) (wpAny_cRoomFor hu1 ?_)
    refine wpAny_bind (m := callSpecialIfBound? (.ref x) (Str.ofString "__eq__") _) (ifBound_K X I hs hf (wpAny_mono h (fun r s' hq => ?_) fun _ _ y => y))
    obtain ⟨c, rfl, hq⟩ := hq
    refine wpAny_bind (m := truthy (.bool c)) (wpAny_truthy_bool ?_)
    exact wpAny_pure (wpAny_pure ⟨_, rfl, hq⟩)
  unfold richCompare
  simp only [oneThing_ref]
  refine wpAny_holding (wpAny_bind (wpAny_cRoomFor hu ?_))
  refine wpAny_bind (I.type.here (wpAny_bind (hb.here ?_)))
  split
  · rename_i q
    have e : subIn K tb (.ref C) = some false := by
      rcases Bool.or_eq_true_iff.mp hn with e | e
      · rw [beq_iff_eq.mp e] at q; simp at q
      · exact beq_iff_eq.mp e
    refine wpAny_bind ((looks_subIn X e).here ?_)
    simp only [Bool.false_eq_true, if_false]
    refine wpAny_bind (wpAny_mono one (fun r s' z => ?_) fun _ _ e => e)
    obtain ⟨v, rfl, hq⟩ := z
    exact wpAny_pure hq
  · refine wpAny_bind (wpAny_pure ?_)
    simp only [Bool.false_eq_true, if_false]
    refine wpAny_bind (wpAny_mono one (fun r s' z => ?_) fun _ _ e => e)
    obtain ⟨v, rfl, hq⟩ := z
    exact wpAny_pure hq
end
section
variable {X : Cx} {CX : CXT} {k : Nat} {C f g : Addr} {fd : FuncData} {ps : List Str} {sp : Sp} {E : XK}
/-- a != b, by the own == -/
def rOwnNe (K : PySem.W.Frag) (C : Addr) (sp : Sp) (E : XK) : R2 := fun x y H Q => ∃ a dx fs t, x = .ref a ∧ H a = some (.ins C dx fs) ∧ TyX K H y t ∧ notFirst K C t = true ∧ sp [x, y] H (fun v H' => ∃ c, v = .bl c ∧ Q (.bl (!c)) H') E
theorem op_neOwn (F : FnOk X.prog X.w X.K X.mg X.base CX k f fd ps sp) (hr : Room (k + 1) X.A) (hb : Binds X.K fd ps []) (hx : Passes CX X E) (hm : mroIn X.K C (.type "object") = some true)
    (hne : findIn X.K (.ref C) "__ne__" = some (some (.builtin "object.__ne__"))) (hs : findIn X.K (.ref C) "__eq__" = some (some (.ref f))) (hf : isFn X.K (.ref f) = true) : OpR X (compareOp .NotEq) (rOwnNe X.K C sp E) := by
  intro pins s σ H x y v u Q I rx ry h
  obtain ⟨a, dx, fs, t, rfl, ea, ty, nf, q⟩ := h
  cases (show v = Value.ref a from rx)
  obtain ⟨ox, od, J⟩ := ins_inst I ea
  have rr : Vals [V.ref a, y] [Value.ref a, u] := .cons rfl (.cons ry .nil)
  have hu := hu_of hr
  refine ne_K (Nat.lt_of_le_of_lt (Nat.le_add_right _ 1) hu) (by show X.A.units + 1 < _; exact hu) I.kIn J (ty_looks I ry ty) nf hm hne hs hf ?_
  refine wpAny_mono (run_at (A := X.A.in1) rfl F hr.in1 hb hx I rr q) (fun v' s' z => ?_) fun _ _ z => z
  obtain ⟨w1, H', I', r', c, rfl, q'⟩ := z
  cases (show v' = Value.bool c from r')
  exact ⟨c, rfl, .bl (!c), H', I', rfl, q'⟩
/-- a + b and its like, both of the class at C -/
theorem op_binOwn {op : Operator} (F : FnOk X.prog X.w X.K X.mg X.base CX k f fd ps sp) (hr : Room k X.A) (hb : Binds X.K fd ps []) (hx : Passes CX X E) (hc : selfFirst X.K C = true)
    (hs : findIn X.K (.ref C) (PySem.dunder op.info.2) = some (some (.ref f))) (hf : isFn X.K (.ref f) = true) :
    OpR X (binaryOp op) (fun x y H Q => ∃ a dx fs b dy gs, x = .ref a ∧ H a = some (.ins C dx fs) ∧ y = .ref b ∧ H b = some (.ins C dy gs) ∧ sp [x, y] H Q E) := by
  intro pins s σ H x y v u Q I rx ry h
  obtain ⟨a, dx, fs, b, dy, gs, rfl, ea, rfl, eb, q⟩ := h
  cases (show v = Value.ref a from rx)
  cases (show u = Value.ref b from ry)
  obtain ⟨ox, od, J⟩ := ins_inst I ea
  obtain ⟨oy, od', J'⟩ := ins_inst I eb
  obtain ⟨m, hF⟩ := I.fr
  have rr : Vals [V.ref a, V.ref b] [Value.ref a, Value.ref b] := .cons rfl (.cons rfl .nil)
  refine PySem.W.binop_K hF I.ok.mod.kin J J'.type hc hs hf ?_
  exact wpAny_mono (run_at rfl F hr hb hx I rr q) (fun _ _ z => cmp_back z) fun _ _ z => z
/-- a + n, n of a built-in type -/
theorem op_binOwnT {op : Operator} {T : String} {fo ro rc : Option Value} (F : FnOk X.prog X.w X.K X.mg X.base CX k f fd ps sp) (hr : Room k X.A) (hb : Binds X.K fd ps []) (hx : Passes CX X E) (hc : selfFirst X.K C = true)
    (hs : findIn X.K (.ref C) (PySem.dunder op.info.2) = some (some (.ref f))) (hf : isFn X.K (.ref f) = true) (h2 : findIn X.K (.ref C) (dunderR op.info.2) = some rc) (hp : rc = none ∨ ∃ g : Addr, rc = some (.ref g))
    (h3 : findIn X.K (.type T) (PySem.dunder op.info.2) = some fo) (h4 : findIn X.K (.type T) (dunderR op.info.2) = some ro) (hsub : subIn X.K (.type T) (.ref C) = some false) :
    OpR X (binaryOp op) (fun x y H Q => ∃ a dx fs, x = .ref a ∧ H a = some (.ins C dx fs) ∧ (∀ u, L2.RelV y u → typeOf u = pure (.type T)) ∧ sp [x, y] H Q E) := by
  intro pins s σ H x y v u Q I rx ry h
  obtain ⟨a, dx, fs, rfl, ea, ht, q⟩ := h
  cases (show v = Value.ref a from rx)
  obtain ⟨ox, od, J⟩ := ins_inst I ea
  obtain ⟨m, hF⟩ := I.fr
  have rr : Vals [V.ref a, y] [Value.ref a, u] := .cons rfl (.cons ry .nil)
  refine PySem.W.ksp_binT hF I.ok.mod.kin J (ht u ry) hc hs hf h2 hp h3 h4 hsub ?_
  exact wpAny_mono (run_at rfl F hr hb hx I rr q) (fun _ _ z => cmp_back z) fun _ _ z => z
theorem str_back {pins : List (Addr × Obj)} {σ : L2.St} {Q : VK} {u : Value} {s' : Shared} (h : EP X pins σ (fun v H => ∃ y, v = .str y ∧ Q (.str y) H) u s') : StrBack (EP X pins σ Q) u s' := by
  obtain ⟨v, H', I, r, y, rfl, q⟩ := h
  obtain ⟨t, rfl⟩ := (show ∃ t, u = Value.str y t from r)
  exact ⟨.str y, H', I, ⟨t, rfl⟩, q⟩
/-- repr(a) by the own __repr__ -/
def rOwnS (C : Addr) (sp : Sp) (E : XK) : List V → Hp → VK → Prop := fun xs H Q => ∃ a dx fs, xs = [.ref a] ∧ H a = some (.ins C dx fs) ∧ sp xs H (fun v H' => ∃ y, v = .str y ∧ Q (.str y) H') E
theorem call_reprOwn (F : FnOk X.prog X.w X.K X.mg X.base CX k f fd ps sp) (hr : Room (k + 1) X.A) (hb : Binds X.K fd ps []) (hx : Passes CX X E) (hs : findIn X.K (.ref C) "__repr__" = some (some (.ref f))) (hf : isFn X.K (.ref f) = true) :
    CallR X (.builtin "repr") (rOwnS C sp E) := by
  intro pins s σ H xs us Q I r h
  obtain ⟨a, dx, fs, rfl, ea, q⟩ := h
  obtain ⟨ox, od, J⟩ := ins_inst I ea
  obtain ⟨m, hF⟩ := I.fr
  have rr : Vals [V.ref a] us := r
  cases r with
  | cons r1 rn =>
    cases rn
    cases (show _ = Value.ref a from r1)
    refine PySem.W.repr_K (by have := hu_of hr; exact this) hF I.ok.mod.kin J hs hf ?_
    exact wpAny_mono (run_at (A := X.A.in1) rfl F hr.in1 hb hx I rr q) (fun _ _ z => str_back z) fun _ _ z => z
/-- n + b, n an int, b of the class at C with its own __radd__ -/
theorem op_addIOwn {rc : Option Value} (F : FnOk X.prog X.w X.K X.mg X.base CX k f fd ps sp) (hr : Room k X.A) (hb : Binds X.K fd ps []) (hx : Passes CX X E) (hc : selfFirst X.K C = true)
    (hs : findIn X.K (.ref C) (PySem.dunder "add") = some (some (.ref g))) (hs2 : findIn X.K (.ref C) (dunderR "add") = some (some (.ref f))) (hf : isFn X.K (.ref f) = true) (hsub : subIn X.K (.ref C) (.type "int") = some false) :
    OpR X (binaryOp .Add) (fun x y H Q => ∃ i b dy gs, x = .int i ∧ y = .ref b ∧ H b = some (.ins C dy gs) ∧ sp [y, x] H Q E) := by
  intro pins s σ H x y v u Q I rx ry h
  obtain ⟨i, b, dy, gs, rfl, rfl, eb, q⟩ := h
  obtain ⟨t, rfl⟩ := (show ∃ t, v = Value.int i t from rx)
  cases (show u = Value.ref b from ry)
  obtain ⟨mA, O, _⟩ := ins_get I.hok eb
  obtain ⟨od, J, _⟩ := O.look
  have rr : Vals [V.ref b, V.int i] [Value.ref b, Value.int i t] := .cons rfl (.cons ⟨t, rfl⟩ .nil)
  have X0 := I.kIn
  have one := ksp_try (Q := EP X pins σ Q) X0 J hs2 hf (wpAny_mono (run_at rfl F hr hb hx I rr q) (fun _ _ z => cmp_back z) fun _ _ z => z)
  obtain ⟨cd, rest, hcd, hm⟩ := ksp_first hc
  have Lb : Looks (model X.prog X.w) s.heap (typeOf (.ref b)) (.ref C) := J.type
  have La : Looks (model X.prog X.w) s.heap (typeOf (.int i t)) (.type "int") := Looks.of_pure rfl
  have Lf : Looks (model X.prog X.w) s.heap (fillsNumberSlot (.ref C) "add") true := fills_K X0 hcd hm hs
  have Lg : Looks (model X.prog X.w) s.heap (fillsNumberSlot (.type "int") "add") true := Looks.of_pure PySem.fills_int_add
  have Ls : Looks (model X.prog X.w) s.heap (isSubtype (.ref C) (.type "int")) false := looks_subIn X0 hsub
  have Ln : Looks (model X.prog X.w) s.heap (numberSlotInPython (.type "int") "add") false := Looks.of_pure rfl
  have hne : (Value.type "int" == Value.ref C) = false := Bool.eq_false_iff.mpr fun q => by cases beq_iff_eq.mp q
  have ob := O.obj
  have dec : ∀ {R : Option Value → Shared → Prop}, R none s → wpAny (model X.prog X.w) X.A (tryMethod (.int i t) (PySem.dunder "add") (.ref b)) R X.xe s := by
    intro R hR
    have ob' := ob
    obtain ⟨hh, gg, d, tt, os⟩ := s
    unfold tryMethod
    refine wpAny_bind (wpAny_callSpecial?_slot (T := "int") (typeIs_int _ _ _) PySem.F.slot_int_add ?_)
    refine wpAny_call (codeAny_call_builtin PySem.F.slot_int_add.plain PySem.F.entry_int_add (PySem.F.slot_int_add.check _ _ _ _ _ _ _ _ (typeIs_int _ _ _) (PySem.F.args_int_add_2 _ _) ?_))
    unfold Builtin.«int.__add__» Builtin.Int.intBinary
    refine wpAny_bind (m := slotArgs "__add__" 1 _) (wpAny_pure ?_)
    refine wpAny_bind (m := Builtin.Int.intOfSelf _) (wpAny_bind (wpAny_pure (wpAny_pure ?_)))
    refine wpAny_bind (m := asInt? (.ref b)) (wpAny_bind (wpAny_load ob ?_))
    refine wpAny_pure ?_
    refine wpAny_bind (wpAny_rule ?_)
    exact wpAny_pure (wpAny_pure hR)
  show wpAny (model X.prog X.w) X.A (binaryOp .Add (.int i t) (.ref b)) (EP X pins σ Q) X.xe s
  generalize hR : EP X pins σ Q = R at one
  obtain ⟨hh, gg, d, tt, os⟩ := s
  simp only [binaryOp, Operator.info]
  refine wpAny_holding (wpAny_bind ?_)
  unfold binaryOp1
  refine wpAny_bind (La.at (wpAny_bind (Lb.at (wpAny_bind (Lg.at ?_)))))
  simp only [hne, Bool.false_eq_true, if_false]
  repeat ((fail_if_success (with_reducible show wpAny _ _ (tryMethod _ _ _) _ _ _)); lk)
  refine dec ?_
  repeat ((fail_if_success (with_reducible show wpAny _ _ (tryMethod _ _ _) _ _ _)); lk)
  refine wpAny_mono one (fun r s' hr' => ?_) fun _ _ e => e
  obtain ⟨v, rfl, hq⟩ := hr'
  obtain ⟨hh', gg', d', tt', os'⟩ := s'
  repeat lk
  exact hq
end
end Ow

namespace Ow
open PySem PySem.Spec PyProof.Rows L2
section
variable {X : Cx} {CX : CXT} {k i : Nat} {C f p g : Addr} {mc : Value} {fd : FuncData} {ps : List Str} {sp : Sp} {dvs : List V} {ds : List Value} {E : XK} {x m : Str} {pc pos apos : Pos} {e o : Expr} {es : List Expr} {ta : TE} {t : TA} {pl : Sem Bool}
/-- str(a) by the own __str__ -/
theorem call_strOwn (F : FnOk X.prog X.w X.K X.mg X.base CX k f fd ps sp) (hr : Room (k + 2) X.A) (hb : Binds X.K fd ps []) (hx : Passes CX X E) (hs : PySem.W.findIn X.K (.ref C) "__str__" = some (some (.ref f))) (hf : PySem.W.isFn X.K (.ref f) = true) :
    CallR X (.type "str") (rOwnS C sp E) := by
  intro pins s σ H xs us Q I r h
  obtain ⟨a, dx, fs, rfl, ea, q⟩ := h
  obtain ⟨ox, od, J⟩ := ins_inst I ea
  have rr : Vals [V.ref a] us := r
  cases r with
  | cons r1 rn =>
    cases rn
    cases (show _ = Value.ref a from r1)
    refine PySem.W.kso_call (by have := hr.un; show X.A.units + 1 + 1 < _; omega) I.kIn J hs hf ?_
    exact wpAny_mono (run_at (A := X.A.in1.in1) rfl F hr.in1.in1 hb hx I rr q) (fun _ _ z => str_back z) fun _ _ z => z
/-- cls(e, ..), the class at C in the i-th slot -/
def tMakeL (i : Nat) (C : Addr) (sp : Sp) (dvs : List V) (E : XK) (t : TA) : TE := fun σ H Q => σ[i]? = some (some (.ref C)) ∧ tMake C sp dvs E t σ H Q
theorem pe_makeL (M : Mk X.K C f) (F : FnOk X.prog X.w X.K X.mg X.base CX k f fd ps sp) (hr : Room (k + 1) X.A) (hN : X.N[i]? = some x) (hv : Vis X.env.scope x) (hb : Binds X.K fd ps ds) (hd : Vals dvs ds) (hx : Passes CX X E) (ha : PA X (e :: es) t)
    (hdb : (x == ("__debug__" : Str)) = false := by decide) (hcd : (x == ("__classdict__" : Str)) = false := by decide) (he : starEach (e :: es) X.env = (false, eval e X.env) :: starEach es X.env := by rfl)
    (hpl : (backTo pos (starEach es X.env)).any (·.1) = false := by rfl) : PE X (.Call (.Name x pc) (e :: es) [] pos) (tMakeL i C sp dvs E t) := by
  refine ⟨fun pins s σ H Q I ⟨hs, ht⟩ => ?_⟩
  have nm := (pe_var (X := X) (pos := pc) hN hv hdb hcd).run pins s σ H (fun v H1 => v = .ref C ∧ H1 = H) I ⟨.ref C, hs, rfl, rfl⟩
  refine wpAny_Call_Name_kw (thn nm fun u s1 ⟨v, H1, I1, r1, q1⟩ => ?_)
  obtain ⟨rfl, rfl⟩ := q1
  cases r1
  refine PySem.W.callWith_K (h₀ := X.base) I.ok.mod.kin M.kp (thn (ha.run pos pins s1 σ _ _ I1 ht) fun us s2 ⟨vs, H2, I2, r, q⟩ => ⟨I2.kIn, ?_⟩) he hpl
  exact run_make M F hr hb hd hx I2 r q
/-- e.m(), e the class at C, m a classmethod of it -/
theorem pe_cmeth0 (he : PE X o ta) (r : ClX.CRead X.K C mc) (c : ClX.CMet X.K C mc m p g) (F : FnR X.prog X.w X.K X.mg X.base CX k g sp) (hr : Room k X.A) (hx : Passes CX X E)
    (ht : eval (.Call (.Attribute o m apos) [] [] pos) X.env = (do
      let ov ← eval o X.env
      standAt apos.atName
      let (fv, fst) ← holding [ov] (getMethod ov m pl)
      callWith pos fv fst (backTo pos (starEach [] X.env)) (backToKw pos (keywordEach [] X.env))) := by rfl) :
    PE X (.Call (.Attribute o m apos) [] [] pos) (ClX.tCMeth C sp E ta tNil) := by
  refine ⟨fun pins s σ H Q I h => ?_⟩
  refine PySem.W.methodCall_KW (pl := pl) (thn (he.run pins s σ H _ I h) fun u s1 ⟨x, H1, I1, rx, ex, q⟩ => ?_) ht
  subst ex
  obtain rfl : u = Value.ref C := rx
  refine ClX.getmethcm_ok I1 r c fun s2 I2 => ?_
  exact PySem.W.callWith_M0 (K := X.K) (first := []) ⟨ClX.pin_at I2, I2.kIn⟩ c.fi (ClX.run_cm (us := []) (vs := []) F hr hx I2 .nil q)
end
end Ow

/-! an exception class of the program over any base whose maker is known: made by a call, with or without keywords -/
namespace Ow
open PySem PySem.W PySem.Calls PyProof.Rows PySem.HandSPX Builtin
/-- what of the classes above is asked for -/
structure Tail (B : String) (bm : List Value) : Prop where
  base : bm.contains (.type B) = true
  nA : bm.contains (.type "AttributeError") = false
  nN : bm.contains (.type "NameError") = false
section
variable {M : Model} {prog : Program} {w : World} {A : Around} {E : Value → Shared → Prop} {R : Result → Shared → Prop} {hp : Heap} {gs : Array GenState} {dr : Drawn} {tk : Nat} {os : OsState} {nm q : Str} {C N : Addr} {bs bm bmB : List Value} {hd ab : Bool}
  {sn : List Str} {sub : List Value} {col : Option Bool} {dd : Option Addr} {k0 k1 k2 k3 k5 : Option Value} {B ni ii : String}
theorem ex_check (F : ExcBaseFacts B ni ii bmB) (T : Tail B bm) {us : List Value} {kw : List (Str × Value)} {Q : Unit → Shared → Prop} (ho : hp.get? C = some (excClassObj nm q C N bs bm hd sn sub ab col dd k0 k1 k2 k3 k5 ni))
    (fin : Q () ⟨hp, gs, dr, tk, os⟩) : wpAny M A (checkBuiltinCall ni ⟨.ref C :: us, kw⟩) Q E ⟨hp, gs, dr, tk, os⟩ := by
  have yes : (Value.ref C :: bm).contains (.type B) = true := by rw [List.contains_cons, T.base, Bool.or_true]
  have star := F.noStar
  simp only [checkBuiltinCall, F.newKind, F.newSplit, F.newRow]
  repeat (first | (refine wpAny_loadPart_at ho ?_) | (refine wpAny_isSubtype_exc ho ?_; rw [yes]) | (refine wpAny_staticBase_exc ho ?_) | (refine wpAny_madeBy_exc ho ?_) | (simp only [bne_self_eq_false, Bool.false_eq_true, if_false]) | wp_step)
  exact fin
theorem ex_new (F : ExcBaseFacts B ni ii bmB) (T : Tail B bm) {us : List Value} {kw : List (Str × Value)} (ho : hp.get? C = some (excClassObj nm q C N bs bm hd sn sub ab col dd k0 k1 k2 k3 k5 ni)) (hl : us.length ≤ sizeLine)
    (fin : R (.ok (.ret (.ref (hp.objs.size + 1)))) ⟨(hp.push (W.kdv_tup us)).push (excO C hp.objs.size), gs, dr, tk, os⟩) :
    codeAny (model prog w) A (.builtin ni ⟨.ref C :: us, kw⟩) R ⟨hp, gs, dr, tk, os⟩ := by
  have ends := F.ends
  have yes : (Value.ref C :: bm).contains (.type B) = true := by rw [List.contains_cons, T.base, Bool.or_true]
  have noA : (Value.ref C :: bm).contains (.type "AttributeError") = false := by rw [List.contains_cons, T.nA]; rfl
  have noN : (Value.ref C :: bm).contains (.type "NameError") = false := by rw [List.contains_cons, T.nN]; rfl
  refine codeAny_builtinAt F.entry ?_
  unfold Builtin.«BaseException.__new__»
  refine PySem.wpAt_bind ?_
  show PySem.wpAt _ _ _ (stack >>= _) _ _ _
  refine PySem.wpAt_bind (PySem.wpAt_stack fun pp below => PySem.wpAt_of_wpAny ?_)
  wp_walk
  refine PySem.wpAt_of_wpAny ?_
  rw [F.owner]
  repeat (first | (with_reducible refine wpAny_madeHere_exc F.canon ho ?_) | (with_reducible refine wpAny_loadPart_at ho ?_) | (with_reducible refine wpAny_isSubtype_exc ho ?_; first | rw [yes] | rw [noA] | rw [noN]) | wp_step)
  show R _ _
  rw [Heap.size_push]
  exact fin
theorem ex_tcall (F : ExcBaseFacts B ni ii bmB) (T : Tail B bm) {us : List Value} {kw : List (Str × Value)} {vI : Value} {Q : PySem.Fin → Shared → Prop} (ho : hp.get? C = some (excClassObj nm q C N bs bm hd sn sub ab col dd k0 k1 k2 k3 k5 ni))
    (look : W.Looks (model prog w) hp (typeLookup (.ref C) "__init__") (some vI)) (own : ∀ e, W.Looks (model prog w) hp (bindSpecial vI e) (vI, [e])) (hl : us.length ≤ sizeLine)
    (ini : codeAny (model prog w) A (.call vI ⟨.ref (hp.objs.size + 1) :: us, kw⟩)
      (fun r s' => match r with | .ok (.ret v) => v = .none ∧ Q (.done (.ret (.ref (hp.objs.size + 1)))) s' | .ok _ => False | .error e => E e s') ⟨(hp.push (W.kdv_tup us)).push (excO C hp.objs.size), gs, dr, tk, os⟩) :
    wpAny (model prog w) A (Builtin.«type.__call__» ⟨.ref C :: us, kw⟩) Q E ⟨hp, gs, dr, tk, os⟩ := by
  repeat (first | (with_reducible refine wpAny_loadPart_at ho ?_) | (with_reducible refine wpAny_madeBy_exc ho ?_) | wp_step)
  refine codeAny_call_builtin_code (Code.quiet_builtin _ F.quiet) (ex_check F T ho ?_)
  refine ex_new F T ho hl ?_
  show wpAny _ _ _ _ _ _
  have kp : ∀ b o, hp.get? b = some o → ((hp.push (W.kdv_tup us)).push (excO C hp.objs.size)).get? b = some o := fun b o z => Heap.get?_push_of_some _ (Heap.get?_push_of_some _ z)
  have ho1 := kp _ _ ho
  have he : ((hp.push (W.kdv_tup us)).push (excO C hp.objs.size)).get? (hp.objs.size + 1) = some (excO C hp.objs.size) := by heap_get
  have self : (Value.ref C :: bm).contains (.ref C) = true := by simp
  have l1 := look.keeps kp
  have o1 := (own (.ref (hp.objs.size + 1))).keeps kp
  unfold isInstance
  repeat (first | (with_reducible refine wpAny_loadPart_at he ?_) | (with_reducible refine wpAny_isSubtype_exc ho1 ?_; rw [self]) | wp_step)
  show wpAny _ _ (typeLookup (.ref C) _) _ _ _
  refine l1.at ?_
  refine wpAny_holding (wpAny_bind (o1.at ?_))
  refine wpAny_bind (wpAny_call (codeAny_mono ini fun r s' z => ?_))
  rcases r with e | (v | _ | _ | _) <;> first | exact z | exact z.elim | skip
  obtain ⟨rfl, z⟩ := z
  first | exact wpAny_pure (wpAny_pure z) | (wp_walk; exact z)
theorem ex_tcheck {us : List Value} {kw : List (Str × Value)} {Q : Unit → Shared → Prop} (ho : hp.get? C = some (excClassObj nm q C N bs bm hd sn sub ab col dd k0 k1 k2 k3 k5 ni)) (fin : Q () ⟨hp, gs, dr, tk, os⟩) :
    wpAny M A (checkBuiltinCall "type.__call__" ⟨.ref C :: us, kw⟩) Q E ⟨hp, gs, dr, tk, os⟩ := by
  have a3 := tc_sub
  have ty : (⟨hp, gs, dr, tk, os⟩ : Shared).TypeIs (.ref C) "type" := ⟨_, ho, rfl⟩
  simp only [checkBuiltinCall, tc_kind, tc_split]
  repeat (any_goals (first | assumption | (with_reducible refine wpAny_loadPart_at ho ?_) | (with_reducible refine wpAny_onRaise ?_) | (with_reducible refine wpAny_map ?_) | wp_step))
theorem ex_call (F : ExcBaseFacts B ni ii bmB) (T : Tail B bm) {us : List Value} {kw : List (Str × Value)} {vI : Value} (ho : hp.get? C = some (excClassObj nm q C N bs bm hd sn sub ab col dd k0 k1 k2 k3 k5 ni))
    (look : W.Looks (model prog w) hp (typeLookup (.ref C) "__init__") (some vI)) (own : ∀ e, W.Looks (model prog w) hp (bindSpecial vI e) (vI, [e])) (hl : us.length ≤ sizeLine)
    (ini : codeAny (model prog w) (A.under (.builtin "type.__call__" ⟨.ref C :: us, kw⟩)) (.call vI ⟨.ref (hp.objs.size + 1) :: us, kw⟩) (W.InitBack (hp.objs.size + 1) R) ⟨(hp.push (W.kdv_tup us)).push (excO C hp.objs.size), gs, dr, tk, os⟩) :
    codeAny (model prog w) A (.call (.ref C) ⟨us, kw⟩) R ⟨hp, gs, dr, tk, os⟩ := by
  have a1 := tc_lookup
  have a2 := tc_bind (.ref C)
  have ty : (⟨hp, gs, dr, tk, os⟩ : Shared).TypeIs (.ref C) "type" := ⟨_, ho, rfl⟩
  refine codeAny_of_tree ?_
  show wpAny _ _ (callAny (.ref C) _) _ _ _
  repeat (any_goals (first | assumption | (with_reducible refine wpAny_loadPart_at ho ?_) | wp_step))
  refine ⟨rfl, ?_⟩
  refine codeAny_call_builtin_at (Code.quiet_builtin _ (by decide +kernel)) entry_typeCall ?_
  refine ex_tcheck ho ?_
  refine ex_tcall F T ho look own hl ?_
  refine codeAny_mono ini fun r s' z => ?_
  rcases r with e | (v | _ | _ | _) <;> exact z
end
end Ow

/-! exceptions of own classes as values: made by a call, their fields stored and read, isinstance -/
namespace Ow
open PySem PySem.Spec PyProof.Rows L2
/-- an own exception class, whatever its base -/
structure OexB (K : PySem.W.Frag) (C : Addr) : Prop where
  cls : ∃ B ni ii bmB nm q N bs bm sn sub ab col dd k0 k1 k2 k3 k5, ExcBaseFacts B ni ii bmB ∧ K.lookup C = some (excClassObj nm q C N bs bm true sn sub ab col dd k0 k1 k2 k3 k5 ni) ∧ Tail B bm ∧
    (∀ v, PySem.refuseLoop v "__setattr__" (.ref C :: bm) = pure ()) ∧ (Value.ref C :: bm).contains (.type "object") = true
  sa : PySem.W.findIn K (.ref C) "__setattr__" = some (some (.builtin "object.__setattr__"))
  kC : PySem.W.keepIn K (.ref C) = true
/-- its own __init__ -/
structure OIni (K : PySem.W.Frag) (C fI : Addr) : Prop where
  iC : PySem.W.findIn K (.ref C) "__init__" = some (some (.ref fI))
  tI : PySem.W.typeIn K (.ref fI) = some (.type "function")
def tEx (C : Addr) (sp : Sp) (E : XK) (t : TA) : TE := fun σ H Q => t σ H fun vs H1 => vs.length ≤ 1000 ∧ ∀ a, H1 a = none → sp (.ref a :: vs) (upd H1 a (exo a C none)) (fun v H2 => v = .non ∧ Q (.ref a) H2) E
def tExK (C : Addr) (m : Nat) (sp : Sp) (gV : List V → List V → List V) (E : XK) (tk : TA) : TE := fun σ H Q => tk σ H fun zs H1 => zs.length = m ∧ ∀ a, H1 a = none → sp (gV [.ref a] zs) (upd H1 a (exo a C none)) (fun v H2 => v = .non ∧ Q (.ref a) H2) E
section
variable {X : Cx} {CX : CXT} {k n : Nat} {fI C : Addr} {fd : FuncData} {ps ks : List Str} {sp : Sp} {E : XK} {x : Str} {p pos : Pos} {e : Expr} {es : List Expr} {kws : List Keyword} {t tk : TA} {g : List Value → List Value → List Value} {gV : List V → List V → List V}
theorem ex_laid {pins : List (Addr × Obj)} {σ : L2.St} {H : Hp} {s : Shared} {us : List Value} (I : Inv X pins σ H s) :
    Inv X pins σ (upd H (s.heap.objs.size + 1) (exo (s.heap.objs.size + 1) C none)) { s with heap := (s.heap.push (PySem.W.kdv_tup us)).push (PySem.HandSPX.excO C s.heap.objs.size) } := by
  obtain ⟨hp, gs, dr, tk, os⟩ := s
  have he : ((hp.push (PySem.W.kdv_tup us)).push (PySem.HandSPX.excO C hp.objs.size)).get? (hp.objs.size + 1) = some (PySem.HandSPX.excO C hp.objs.size) := by heap_get
  exact I.laid (t' := tk) (a := hp.objs.size + 1) (o := exo (hp.objs.size + 1) C none) (fun b o e => Heap.get?_push_of_some _ (Heap.get?_push_of_some _ e)) (Nat.le_succ _) (exo_ok he)
theorem run_ex {pins : List (Addr × Obj)} {σ : L2.St} {H : Hp} {s : Shared} {Q : VK} {us : List Value} {vs : List V} (T : OexB X.K C) (O : OIni X.K C fI) (F : FnOk X.prog X.w X.K X.mg X.base CX k fI fd ps sp) (hr : Room (k + 1) X.A) (hb : Binds X.K fd ps [])
    (hx : Passes CX X E) (I : Inv X pins σ H s) (r : Vals vs us) (hl : vs.length ≤ 1000)
    (h : ∀ a, H a = none → sp (.ref a :: vs) (upd H a (exo a C none)) (fun v H2 => v = .non ∧ Q (.ref a) H2) E) :
    wpAny (model X.prog X.w) X.A (call (.ref C) us) (EP X pins σ Q) X.xe s := by
  obtain ⟨B, ni, ii, bmB, nm, q, N, bs, bm, sn, sub, ab, col, dd, k0, k1, k2, k3, k5, FB, hC, hT, _, _⟩ := T.cls
  have hq := h (s.heap.objs.size + 1) (I.hok.fresh (Nat.le_succ _))
  have I2 := ex_laid (C := C) (us := us) I
  have r1 : Vals (V.ref (s.heap.objs.size + 1) :: vs) (Value.ref (s.heap.objs.size + 1) :: us) := .cons rfl r
  have e1 : (Value.ref (s.heap.objs.size + 1) :: us).length = ps.length := by
    have z := r1.length
    rw [F.len _ _ _ _ hq] at z
    exact z.symm
  have e2 : us.length ≤ sizeLine := by
    rw [← r.length, sizeLine_eq]
    omega
  obtain ⟨hp, gs, dr, tk, os⟩ := s
  have r2 : Vals (V.ref (hp.objs.size + 1) :: vs) ((Value.ref (hp.objs.size + 1) :: us) ++ []) := by rw [List.append_nil]; exact r1
  have bt := hb _ (Value.ref (hp.objs.size + 1) :: us) I2.kIn (by rw [List.append_nil]; exact e1)
  refine wpAny_call (ex_call FB hT (I.kIn _ _ hC) (PySem.W.looks_findIn I.kIn O.iC) (fun self => PySem.W.bind_fn I.kIn self O.tI) e2
    (codeAny_mono (F.run _ X.stack _ _ ⟨Value.ref (hp.objs.size + 1) :: us, []⟩ ((Value.ref (hp.objs.size + 1) :: us) ++ []) _ _ E (hr.make C us []) (I2.env0.make C us []) bt r2 hq) fun r s' hq' => ?_))
  cases r with
  | error e => exact hx pins σ _ _ e s' I2 hq'
  | ok fl =>
    cases fl with
    | ret u =>
      obtain ⟨v, H', I3, rv, ev, q3⟩ := I2.after hq'
      subst ev
      exact ⟨rv, ⟨V.ref (hp.objs.size + 1), H', I3, rfl, q3⟩⟩
    | next => exact False.elim hq'
    | brk => exact False.elim hq'
    | cont => exact False.elim hq'
theorem run_exK {pins : List (Addr × Obj)} {σ : L2.St} {H : Hp} {s : Shared} {Q : VK} {ws : List Value} {zs : List V} (T : OexB X.K C) (O : OIni X.K C fI) (F : FnOk X.prog X.w X.K X.mg X.base CX k fI fd ps sp) (hr : Room (k + 1) X.A) (hb : KBn X.K fd ps 1 ks g gV)
    (hx : Passes CX X E) (I : Inv X pins σ H s) (r : Vals zs ws) (hl : zs.length = ks.length)
    (h : ∀ a, H a = none → sp (gV [.ref a] zs) (upd H a (exo a C none)) (fun v H2 => v = .non ∧ Q (.ref a) H2) E) :
    wpAny (model X.prog X.w) X.A (call (.ref C) [] (ks.zip ws)) (EP X pins σ Q) X.xe s := by
  obtain ⟨B, ni, ii, bmB, nm, q, N, bs, bm, sn, sub, ab, col, dd, k0, k1, k2, k3, k5, FB, hC, hT, _, _⟩ := T.cls
  have hq := h (s.heap.objs.size + 1) (I.hok.fresh (Nat.le_succ _))
  have I2 := ex_laid (C := C) (us := []) I
  have r1 : Vals [V.ref (s.heap.objs.size + 1)] [Value.ref (s.heap.objs.size + 1)] := .cons rfl .nil
  have r2 := hb.rel r1 r
  have e2 : ws.length = ks.length := r.length.symm.trans hl
  obtain ⟨hp, gs, dr, tk, os⟩ := s
  refine wpAny_call (ex_call FB hT (I.kIn _ _ hC) (PySem.W.looks_findIn I.kIn O.iC) (fun self => PySem.W.bind_fn I.kIn self O.tI) (Nat.zero_le _)
    (codeAny_mono (F.run _ X.stack _ _ ⟨[Value.ref (hp.objs.size + 1)], ks.zip ws⟩ (g [Value.ref (hp.objs.size + 1)] ws) _ _ E (hr.make C [] (ks.zip ws)) (I2.env0.make C [] (ks.zip ws)) (hb.to _ [Value.ref (hp.objs.size + 1)] ws I2.kIn rfl e2) r2 hq) fun r s' hq' => ?_))
  cases r with
  | error e => exact hx pins σ _ _ e s' I2 hq'
  | ok fl =>
    cases fl with
    | ret u =>
      obtain ⟨v, H', I3, rv, ev, q3⟩ := I2.after hq'
      subst ev
      exact ⟨rv, ⟨V.ref (hp.objs.size + 1), H', I3, rfl, q3⟩⟩
    | next => exact False.elim hq'
    | brk => exact False.elim hq'
    | cont => exact False.elim hq'
/-- C(e, ..) -/
theorem pe_ex (T : OexB X.K C) (O : OIni X.K C fI) (F : FnOk X.prog X.w X.K X.mg X.base CX k fI fd ps sp) (hr : Room (k + 1) X.A) (hg : Gl X x) (hm : X.mg x = some (.ref C)) (hb : Binds X.K fd ps []) (hx : Passes CX X E) (ha : PA X (e :: es) t)
    (hdb : (x == ("__debug__" : Str)) = false := by decide) (he : starEach (e :: es) X.env = (false, eval e X.env) :: starEach es X.env := by rfl) (hpl : (backTo pos (starEach es X.env)).any (·.1) = false := by rfl) :
    PE X (.Call (.Name x p) (e :: es) [] pos) (tEx C sp E t) := by
  refine ⟨fun pins s σ H Q I h => ?_⟩
  refine wpAny_Call_Name_kw (ld_glob I hg hm ?_ hdb)
  refine PySem.W.callWith_K (h₀ := X.base) I.ok.mod.kin T.kC (thn (ha.run pos pins s σ H _ I h) fun us s1 ⟨vs, H1, I1, r, hl, q⟩ => ⟨I1.kIn, ?_⟩) he hpl
  exact run_ex T O F hr hb hx I1 r hl q
/-- C(k = e, ..) -/
theorem pe_exK (T : OexB X.K C) (O : OIni X.K C fI) (F : FnOk X.prog X.w X.K X.mg X.base CX k fI fd ps sp) (hr : Room (k + 1) X.A) (hg : Gl X x) (hm : X.mg x = some (.ref C)) (hb : KBn X.K fd ps 1 ks g gV) (hx : Passes CX X E) (hkw : PK X kws tk)
    (hall : (backToKw pos (keywordEach kws X.env)).all (·.1.isSome) = true := by rfl) (hks : (backToKw pos (keywordEach kws X.env)).filterMap (·.1) = ks := by rfl) (hdb : (x == ("__debug__" : Str)) = false := by decide)
    (hpl : ((backTo pos (starEach [] X.env)).any (·.1) || (backToKw pos (keywordEach kws X.env)).any (·.1.isNone)) = false := by rfl) : PE X (.Call (.Name x p) [] kws pos) (tExK C ks.length sp gV E tk) := by
  refine ⟨fun pins s σ H Q I h => ?_⟩
  refine wpAny_Call_Name_kw (ld_glob I hg hm ?_ hdb)
  refine PySem.W.callWith_KW0 (h₀ := X.base) (first := []) I.ok.mod.kin T.kC hall ?_ hpl
  refine thn (hkw.run pos pins s σ H _ I h) fun ws s2 ⟨zs, H2, I2, rz, l2, q2⟩ => ⟨I2.kIn, ?_⟩
  rw [hks]
  exact run_exK T O F hr hb hx I2 rz l2 q2
end
end Ow

namespace Ow
open PySem PySem.W PySem.Calls PyProof.Rows PySem.HandSPX Builtin Builtin.ObjectAttr
section
variable {prog : Program} {w : World} {A : Around} {R : Result → Shared → Prop} {hp : Heap} {gs : Array GenState} {dr : Drawn} {tk : Nat} {os : OsState}
/-- the first field of an exception of any own class -/
theorem osa_first {K : W.Frag} {nm : Str} {tk0 : Tok} {y : Value} {a C : Addr} {fs : Array Value} {cd : ClassData} (X : K.In hp) (hx : hp.get? a = some { cls := .ref C, data := .fields fs }) (hcd : W.clsIn K C = some cd)
    (pass : ∀ v, PySem.refuseLoop v "__setattr__" cd.mro = pure ()) (hob : cd.mro.contains (.type "object") = true) (hh : cd.hasDict = true) (free : W.findIn K (.ref C) nm = some none)
    (fin : ∀ h' t' dx, (∀ b o, b ≠ a → hp.get? b = some o → h'.get? b = some o) → hp.objs.size ≤ dx → dx ≠ a → h'.get? a = some { cls := .ref C, dict := some dx, data := .fields fs } → h'.Ns1 dx (fun z => if z = nm then some y else none) → R (.ok (.ret .none)) ⟨h', gs, dr, t', os⟩) :
    codeAny (model prog w) A (.call (.builtin "object.__setattr__") ⟨[.ref a, .str nm tk0, y], []⟩) R ⟨hp, gs, dr, tk, os⟩ := by
  have J : W.InstAt hp a { cls := .ref C, data := .fields fs } C none := ⟨hx, rfl, rfl, trivial⟩
  have so := F.store_object
  have ne : cd.mro.isEmpty = false := by
    cases e : cd.mro with
    | nil => rw [e] at hob; cases hob
    | cons _ _ => rfl
  have apart : a ≠ hp.objs.size := Nat.ne_of_lt (Heap.lt_size hx)
  have isO : W.Looks (model prog w) hp (isInstance (.ref a) (.type "object")) true := J.type.andThen (W.looks_mroIn X (by unfold W.mroIn; rw [hcd, Option.bind_some, if_neg (by rw [ne]; decide), hob]))
  refine codeAny_call_builtin so.slot.plain so.entry (@W.check_slot (model prog w) _ _ ⟨hp, gs, dr, tk, os⟩ "object.__setattr__" "object" "__setattr__" (.ref a) [.str nm tk0, y] [] _ so.kind so.split isO (so.args (.ref a) (.str nm tk0) y) ?_)
  have m1 : W.Looks (model prog w) hp (mroOf (.ref C)) cd.mro := (W.looks_clsIn X hcd).andThen .now
  have m2 : W.Looks (model prog w) hp (storeTaker? none) none := .now
  have m3 : W.Looks (model prog w) hp (classData C) cd := W.looks_clsIn X hcd
  rw [W.osa_eq, refuse_eq]
  refine wpAny_bind (wpAny_bind (J.type.at (wpAny_bind (m1.at ?_))))
  rw [pass]
  refine wpAny_pure (wpAny_bind (J.type.at (wpAny_bind ((W.looks_findIn X free).at (wpAny_bind (m2.at ?_))))))
  show wpAny _ _ (storeInOwnDict (.ref a) (.ref C) (.str nm tk0) nm y false) _ _ _
  obtain ⟨cn, bs, mro, ns, qn, hd, sn, sb, ab, col, del⟩ := cd
  dsimp only at hh
  subst hh
  unfold storeInOwnDict ownDictForStores
  repeat (first | (with_reducible refine store_in_new ?_ ?_) | (with_reducible refine wpAny_loadPart_at hx ?_) | (with_reducible refine m3.at ?_) | wp_step)
  · exact ⟨_, #[], _, (Heap.get?_update_ne _ _ _ _ apart.symm).trans (Heap.get?_push_at rfl rfl), rfl, fun z hz => absurd hz (by simp), fun _ => rfl⟩
  · intro h' t' dn ds
    have ha1 : (hp.push { cls := .type "dict", data := .dict #[] }).get? a = some { cls := .ref C, data := .fields fs } := Heap.get?_push_of_some _ hx
    refine fin h' t' hp.objs.size (fun b o nb z => ?_) (Nat.le_refl _) apart.symm ?_ dn
    · exact (ds.2 b (Nat.ne_of_lt (Heap.lt_size z))).trans ((Heap.get?_update_ne _ _ _ _ nb).trans (Heap.get?_push_of_some _ z))
    · exact (ds.2 a apart).trans (Heap.get?_update_self _ ha1 rfl)
end
end Ow
namespace Ow
open PySem PySem.Spec PyProof.Rows L2
theorem OexC.b {K : PySem.W.Frag} {C : Addr} (T : OexC K C) : OexB K C := by
  obtain ⟨nm, q, N, bs, bm, sn, sub, ab, col, dd, k0, k1, k2, k3, k5, hC, hbm⟩ := T.cls
  have cont : ∀ Y : String, bm.contains (.type Y) = PySem.HandSPX.veTail.contains (.type Y) := fun Y => PySem.HandSPX.refsVE_contains Y bm hbm
  refine ⟨⟨_, _, _, _, nm, q, N, bs, bm, sn, sub, ab, col, dd, k0, k1, k2, k3, k5, F.excBase_ValueError, hC, ⟨(cont _).trans (by decide +kernel), (cont _).trans (by decide +kernel), (cont _).trans (by decide +kernel)⟩, fun v => ?_, ?_⟩, T.sa, T.kC⟩
  · exact PySem.HandSPX.refsVE_pass v _ (show PySem.HandSPX.refsVE (.ref C :: bm) = true from hbm)
  · rw [List.contains_cons, cont, show PySem.HandSPX.veTail.contains (.type "object") = true from by decide +kernel, Bool.or_true]
/-- over KeyError -/
abbrev keTail : List Value := [.type "KeyError", .type "LookupError", .type "Exception", .type "BaseException", .type "object"]
theorem ke_pass (v : Value) : PySem.refuseLoop v "__setattr__" keTail = pure () := by kernel_rfl
theorem OexB.key {K : PySem.W.Frag} {C : Addr} {nm q N bs sn sub ab col dd k0 k1 k2 k3 k5} (hC : K.lookup C = some (excClassObj nm q C N bs keTail true sn sub ab col dd k0 k1 k2 k3 k5 "LookupError.__new__"))
    (sa : PySem.W.findIn K (.ref C) "__setattr__" = some (some (.builtin "object.__setattr__"))) (kC : PySem.W.keepIn K (.ref C) = true) : OexB K C := by
  refine ⟨⟨_, _, _, _, nm, q, N, bs, keTail, sn, sub, ab, col, dd, k0, k1, k2, k3, k5, F.excBase_LookupError, hC, ⟨by decide +kernel, by decide +kernel, by decide +kernel⟩, fun v => ?_, ?_⟩, sa, kC⟩
  · rw [PySem.refuseLoop_ref]
    exact ke_pass v
  · rw [List.contains_cons, show keTail.contains (.type "object") = true from by decide +kernel, Bool.or_true]
section
variable {X : Cx} {CX : CXT} {pins : List (Addr × Obj)} {σ : L2.St} {H : Hp} {s : Shared} {a C : Addr} {f : Str} {y : V} {u : Value} {Q : Unit → Shared → Prop} {E : Value → Shared → Prop} {A : Around}
theorem exs_first (T : OexB X.K C) (I : Inv X pins σ H s) (e : H a = some (exo a C none)) (free : PySem.W.findIn X.K (.ref C) f = some none) (ry : RelV y u)
    (fin : ∀ dx s', H dx = none → dx ≠ a → Inv X pins σ (upd (upd H dx (exd dx [(f, y)])) a (exo a C (some dx))) s' → Q () s') : wpAny (model X.prog X.w) A (setAttr (.ref a) f u) Q E s := by
  obtain ⟨B, ni, ii, bmB, nm, q, N, bs, bm, sn, sub, ab, col, dd, k0, k1, k2, k3, k5, FB, hC, hT, pass, hob⟩ := T.cls
  have hcl : PySem.W.clsIn X.K C = some { name := nm, bases := bs, mro := .ref C :: bm, ns := N, qualname := q, hasDict := true, slotNames := sn, subclasses := sub, abstract := ab, collection := col, hasDel := false } := by unfold PySem.W.clsIn; rw [hC] <;> rfl
  obtain ⟨t1, ho⟩ := exo_at I.hok e
  obtain ⟨hp, gs, dr, tk, os⟩ := s
  refine PySem.W.set_plain I.kIn (ox := { cls := .ref C, dict := none, data := .fields #[.ref t1, .none, .none, .none, .bool false, .none] }) (od := none) ⟨ho, rfl, rfl, trivial⟩ T.sa ?_
  refine osa_first I.kIn ho hcl pass hob rfl free (fun h' t' dx kp le ne ha hns => ?_)
  have hnd : H dx = none := I.hok.fresh le
  have n1 : ∀ {b : Addr} {o : Obj}, hp.get? b = some o → b ≠ dx := fun {b o} z => Nat.ne_of_lt (Nat.lt_of_lt_of_le (Heap.lt_size z) le)
  have n2 : ∀ {b : Addr}, H b = none → b ≠ a := fun {b} z1 z2 => by
    rw [z2, e] at z1
    cases z1
  have U : Un X.fs [] H (upd (upd H dx (exd dx [(f, y)])) a (exo a C (some dx))) hp h' := {
    keep := fun b o z m _ _ => kp b o (n2 m) z
    slot := fun b o z m _ _ => ⟨o.slots, kp b o (n2 m) z⟩
    free := fun b o z m _ => by
      rw [upd_ne (n2 m), upd_ne (n1 z)]
      exact m
    there := fun b o z _ => by
      by_cases hb : b = a
      · exact ⟨_, by rw [hb]; exact ha⟩
      · exact ⟨o, kp b o hb z⟩
    tups := fun b xs z => by
      rw [upd_ne (at_ne e z exo_tup), upd_ne (ne_of_none z hnd)]
      exact z
    frzs := fun b o v z => by
      rw [upd_ne (at_ne e z exo_frz), upd_ne (ne_of_none z hnd)]
      exact z
    tbls := fun b ps z => ⟨#[], by rw [upd_ne (at_ne e z exo_tbl), upd_ne (ne_of_none z hnd), z]; simp⟩ }
  refine fin dx _ hnd ne (I.un (t' := t') U fun b o z => ?_)
  by_cases hb : b = a
  · subst hb
    rw [upd_same] at z
    cases z
    exact exo_ok ha
  · rw [upd_ne hb] at z
    by_cases hd : b = dx
    · subst hd
      rw [upd_same] at z
      cases z
      exact exd_ok hns (relO_put (fs := []) ry fun g => True.intro)
    · rw [upd_ne hd] at z
      exact (I.hok b o z).stay (fun c v hc l => kp c v (by
          rcases hc with hc | hc
          · rw [hc]
            exact hb
          · exact at_ne e hc exo_own) l)
        (fun c hc => by rw [upd_ne (at_ne e hc exo_own), upd_ne (ne_of_none hc hnd)]; exact hc) (fun c xs hc => by rw [upd_ne (at_ne e hc exo_tup), upd_ne (ne_of_none hc hnd)]; exact hc)
/-- self.f = e, the first field, any base -/
def tExn (K : PySem.W.Frag) (f : Str) (to te : TE) : TS := fun D σ H => te σ H fun y H1 => to σ H1 fun x H2 => ∃ a C : Addr, x = .ref a ∧ OexB K C ∧ PySem.W.findIn K (.ref C) f = some none ∧ H2 a = some (exo a C none) ∧
  ∀ dx, H2 dx = none → dx ≠ a → D.nx σ (upd (upd H2 dx (exd dx [(f, y)])) a (exo a C (some dx)))
theorem ps_exn {o e : Expr} {to te : TE} {p' pos : Pos} (ho : PE X o to) (he : PE X e te) (hs : swapsWith e (some (.Attribute o f p')) pos.line X.env = pure false := by rfl) : PS X (.Assign [.Attribute o f p'] e pos) (tExn X.K f to te) := by
  refine ⟨fun pins s σ H D I h => ?_⟩
  refine plainObj_wpAny_Assign_Attribute (thn (he.run pins s σ H _ I h) fun v s1 ⟨y, H1, I1, r1, q1⟩ => thn (ho.run pins s1 σ H1 _ I1 q1) fun u s2 ⟨x, H2, I2, r2, a, C, ex, T, hno, ea, q⟩ => ?_) hs
  subst ex
  obtain rfl : u = Value.ref a := r2
  exact exs_first T I2 ea hno r1 fun dx s' n ne J => ⟨σ, _, J, q dx n ne⟩
/-- e.f, e an exception -/
def tXv (K : PySem.W.Frag) (f : Str) (te : TE) : TE := fun σ H Q => te σ H fun x H1 => ∃ (a C d : Addr) (fs : List (Str × V)) (v : V), x = .ref a ∧ XfC K C ∧ PySem.W.findIn K (.ref C) f = some none ∧ H1 a = some (exo a C (some d)) ∧ H1 d = some (exd d fs) ∧ fs.lookup f = some v ∧ Q v H1
theorem pe_xv {e : Expr} {te : TE} {pos : Pos} (he : PE X e te) (hb : attributeBase e f X.env (eval e X.env) = eval e X.env := by rfl) : PE X (.Attribute e f pos) (tXv X.K f te) := by
  refine ⟨fun pins s σ H Q I h => ?_⟩
  refine attr_of hb (thn (he.run pins s σ H _ I h) fun u s1 hh => ?_)
  obtain ⟨x, H1, I1, rx, a, C, d, fs, v, ex, T, hno, ea, ed, l, q⟩ := hh
  subst ex
  obtain rfl : u = Value.ref a := rx
  obtain ⟨t1, ha⟩ := exo_at I1.hok ea
  obtain ⟨mA, hns, hr⟩ := exd_at I1.hok ed
  obtain ⟨od, hod, hl⟩ := lookIn_ns hns
  obtain ⟨u, hu, ru⟩ := RelO.some_of (v := v) (o := mA f) (by rw [← l]; exact hr f)
  have J : PySem.W.InstAt s1.heap a _ C (some od) := ⟨ha, rfl, rfl, hod⟩
  exact HandSPX.exc_get I1.kIn J T.ga T.gg T.exC (PySem.W.findObj_own T.hdC hno rfl (by rw [hl, hu])) (handed_of ru) ⟨v, H1, I1.tok _, ru, q⟩
/-- isinstance(e, c), e an exception -/
def rIsX (K : PySem.W.Frag) : List V → Hp → VK → Prop := fun xs H Q => ∃ (a C : Addr) (c : V) (cv : Value) (b : Bool), xs = [.ref a, c] ∧ ExcC K C ∧ (H a = some (exo a C none) ∨ ∃ d fs, H a = some (exo a C (some d)) ∧ H d = some (exd d fs)) ∧
  (∀ u, RelV c u → u = cv) ∧ PySem.W.kitOne K (.ref C) cv = some b ∧ Q (.bl b) H
theorem call_isX : CallR X (.builtin "isinstance") (rIsX X.K) := by
  intro pins s σ H xs us Q I r h
  obtain ⟨a, C, c, cv, b, rfl, T, hz, hcv, e, q⟩ := h
  cases r with
  | cons rx rr =>
    cases rr with
    | cons rt rr =>
      cases rr
      cases rx
      have ec := hcv _ rt
      subst ec
      have isC : (PySem.W.clsIn X.K C).isSome = true := by
        obtain ⟨cd, hc, _⟩ := PySem.W.any_some T.hd
        rw [hc]
        rfl
      have J : ∃ ox od, PySem.W.InstAt s.heap a ox C od := by
        rcases hz with ea | ⟨d, fs, ea, ed⟩
        · obtain ⟨t1, ha⟩ := exo_at I.hok ea
          exact ⟨_, none, ha, rfl, rfl, trivial⟩
        · obtain ⟨t1, ha⟩ := exo_at I.hok ea
          obtain ⟨mA, hns, _⟩ := exd_at I.hok ed
          obtain ⟨od, hod, _⟩ := lookIn_ns hns
          exact ⟨_, some od, ha, rfl, rfl, hod⟩
      obtain ⟨ox, od, J⟩ := J
      exact PySem.W.kia_one (PySem.W.kitx_exc isC T.hg T.hk T.hs T.ha T.hn T.ht T.hm) I.kIn J e (fun z => nomatch z) fun tk => ⟨.bl b, H, I.kept (t' := tk) fun _ _ z => z, rfl, q⟩
/-- C(), no __init__ of its own -/
def tEx0 (C : Addr) : TE := fun σ H Q => ∀ a, H a = none → Q (.ref a) (upd H a (exo a C none))
theorem pe_ex0 {x : Str} {p pos : Pos} (T : OexC X.K C) (iV : PySem.W.findIn X.K (.ref C) "__init__" = some (some (.builtin "ValueError.__init__"))) (hg : Gl X x) (hm : X.mg x = some (.ref C)) (hdb : (x == ("__debug__" : Str)) = false := by decide) :
    PE X (.Call (.Name x p) [] [] pos) (tEx0 C) := by
  refine ⟨fun pins s σ H Q I h => ?_⟩
  refine wpAny_Call_Name_kw (ld_glob I hg hm ?_ hdb)
  refine PySem.W.callWith_K0 (first := []) I.kIn T.kC ?_
  obtain ⟨nm, q, N, bs, bm, sn, sub, ab, col, dd, k0, k1, k2, k3, k5, hC, hbm⟩ := T.cls
  have cont : ∀ Y : String, bm.contains (.type Y) = PySem.HandSPX.veTail.contains (.type Y) := fun Y => PySem.HandSPX.refsVE_contains Y bm hbm
  have hT : Tail "ValueError" bm := ⟨(cont _).trans (by decide +kernel), (cont _).trans (by decide +kernel), (cont _).trans (by decide +kernel)⟩
  have I2 := ex_laid (C := C) (us := []) I
  have q1 := h (s.heap.objs.size + 1) (I.hok.fresh (Nat.le_succ _))
  obtain ⟨hp, gs, dr, tk, os⟩ := s
  have kp : ∀ b o, hp.get? b = some o → ((hp.push (PySem.W.kdv_tup [])).push (PySem.HandSPX.excO C hp.objs.size)).get? b = some o := fun b o z => Heap.get?_push_of_some _ (Heap.get?_push_of_some _ z)
  have he : ((hp.push (PySem.W.kdv_tup [])).push (PySem.HandSPX.excO C hp.objs.size)).get? (hp.objs.size + 1) = some (PySem.HandSPX.excO C hp.objs.size) := by heap_get
  have at_ : upd H (hp.objs.size + 1) (exo (hp.objs.size + 1) C none) (hp.objs.size + 1) = some (exo (hp.objs.size + 1) C none) := upd_same
  refine wpAny_call (ex_call F.excBase_ValueError hT (I.kIn _ _ hC) (PySem.W.looks_findIn I.kIn iV) (fun self => .of_pure (F.excBase_ValueError.init.bind self)) (Nat.zero_le _) ?_)
  refine PySem.HandSPX.init_base F.excBase_ValueError cont (kp _ _ (I.kIn _ _ hC)) he (Nat.zero_le _) fun h' t1 keep hx => ⟨rfl, ?_⟩
  have J := I2.write (t' := tk) (x := hp.objs.size + 1) (e := hp.objs.size + 1) (o := exo (hp.objs.size + 1) C none) (by rw [at_]; exact True.intro) (.inl rfl) keep ⟨_, hx⟩ (exo_ok hx)
  have same : upd (upd H (hp.objs.size + 1) (exo (hp.objs.size + 1) C none)) (hp.objs.size + 1) (exo (hp.objs.size + 1) C none) = upd H (hp.objs.size + 1) (exo (hp.objs.size + 1) C none) := by
    funext b
    by_cases hb : b = hp.objs.size + 1
    · rw [hb, upd_same, upd_same]
    · rw [upd_ne hb]
  rw [same] at J
  exact ⟨.ref (hp.objs.size + 1), _, J, rfl, q1⟩
end
end Ow

/-! the names that the laws draw: texts as lists of code points; str * int -/
namespace Tg
open PySem L2
section
variable {X : Cx}
/-- a text times an int -/
theorem op_mulStr : OpR X (binaryOp .Mult) (fun x y H Q => ∃ (z : Str) (k : Int), x = .str z ∧ y = .int k ∧ MulOk z k ∧ Q (.str (Txt.mul z k)) H) := by
  intro pins s σ H x y v u Q I rx ry h
  obtain ⟨z, k, rfl, rfl, hk, q⟩ := h
  obtain ⟨t, rfl⟩ := rx
  obtain ⟨t', rfl⟩ := ry
  exact SB.mul hk fun t2 n => ⟨.str (Txt.mul z k), H, I.kept (t' := n) fun _ _ z => z, ⟨_, rfl⟩, q⟩
end
/-- a text by its code points -/
def sL (l : List Nat) : Str := ⟨l.toArray⟩
theorem sL_add (a b : List Nat) : sL a ++ sL b = sL (a ++ b) := by
  show Str.mk _ = _
  unfold sL
  congr 1
  exact List.append_toArray a b
theorem sL_len (a : List Nat) : (sL a).length = a.length := List.size_toArray
theorem sL_inj {a b : List Nat} (h : sL a = sL b) : a = b := by
  have := congrArg (fun s : Str => s.cps.toList) h
  simpa [sL] using this
theorem sL_cut (a : List Nat) (lo hi : Option Int) : cutS (sL a) lo hi = sL ((a.drop (HT.sIx a.length 0 lo)).take (HT.sIx a.length a.length hi - HT.sIx a.length 0 lo)) := by
  unfold cutS
  rw [sL_len]
  rfl
theorem sL_lo (a : List Nat) (k : Nat) (h : k ≤ a.length) : cutS (sL a) none (some (k : Int)) = sL (a.take k) := by
  rw [sL_cut, HT.sIx_nat, HT.sIx_none, List.drop_zero, Nat.sub_zero, Nat.min_eq_left h]
theorem sL_hi (a : List Nat) (k : Nat) (h : k ≤ a.length) : cutS (sL a) (some (k : Int)) none = sL (a.drop k) := by
  rw [sL_cut, HT.sIx_nat, HT.sIx_none, Nat.min_eq_left h, List.take_of_length_le (by rw [List.length_drop]; omega)]
theorem mul0 (a : List Nat) : Txt.mul (sL a) 0 = sL [] := rfl
theorem mul1 (a : List Nat) : Txt.mul (sL a) 1 = sL a := rfl
abbrev lettersT : Str := "abcdefghijklmnopqrstuvwxyz"
theorem letters_eq : lettersT = sL ((List.range 26).map (97 + ·)) := by decide +kernel
theorem letter_at (k : Nat) (h : k < 26) : atI lettersT.cps.toList (k : Int) = some (97 + k) := by
  rw [letters_eq]
  refine atI_nat ?_
  show ((List.range 26).map (97 + ·)).toArray.toList[k]? = some (97 + k)
  simp [h]
/-! ### names -/
def isNm (l : List Nat) : Bool := decide (1 ≤ l.length) && decide (l.length ≤ 6) && l.all fun c => decide (97 ≤ c) && decide (c ≤ 122)
structure Nms (ns : List (List Nat)) (m : Nat) : Prop where
  len : ns.length = m
  nd : ns.Nodup
  ok : ∀ n ∈ ns, isNm n = true
theorem Nms.perm {ns ms : List (List Nat)} {m : Nat} (h : Nms ns m) (p : List.Perm ms ns) : Nms ms m := ⟨p.length_eq.trans h.len, p.nodup_iff.mpr h.nd, fun n hn => h.ok n (p.mem_iff.mp hn)⟩
theorem nms_take {ns : List (List Nat)} {m : Nat} (nd : ns.Nodup) (ok : ∀ n ∈ ns, isNm n = true) (h : m ≤ ns.length) : Nms (ns.take m) m :=
  ⟨by rw [List.length_take]; omega, nd.sublist (List.take_sublist m ns), fun n hn => ok n (List.mem_of_mem_take hn)⟩
theorem nodup_map {f : Nat → List Nat} {m : Nat} (h : ∀ i j, i < m → j < m → f i = f j → i = j) : ((List.range m).map f).Nodup := by
  refine List.pairwise_map.mpr ?_
  refine List.Pairwise.imp_of_mem (R := fun i j => i ≠ j) (fun {i j} hi hj ne e => ?_) (List.nodup_range)
  exact ne (h i j (List.mem_range.mp hi) (List.mem_range.mp hj) e)
/-- stem[:at] + letter + stem[at:] -/
def ltr (first k : Nat) : List Nat := (97 + (first + 7 * k) % 26) :: (if 25 < k then [97 + k / 26] else [])
def fnd (stem : List Nat) (at_ first k : Nat) : List Nat := (stem.take at_ ++ ltr first k) ++ stem.drop at_
theorem ltr_len (first k : Nat) : (ltr first k).length = if 25 < k then 2 else 1 := by
  unfold ltr
  split <;> rfl
theorem fnd_inj {stem : List Nat} {at_ first i j : Nat} (hi : i < 40) (hj : j < 40) (h : fnd stem at_ first i = fnd stem at_ first j) : i = j := by
  unfold fnd at h
  have hl := congrArg List.length h
  simp only [List.length_append, ltr_len] at hl
  have same : (25 < i) ↔ (25 < j) := by
    by_cases a : 25 < i <;> by_cases b : 25 < j <;> simp [a, b] at hl ⊢ <;> omega
  rw [List.append_assoc, List.append_assoc] at h
  have h2 := List.append_cancel_left h
  have hd := congrArg List.head? h2
  simp only [ltr, List.cons_append, List.head?_cons, Option.some.injEq] at hd
  by_cases a : 25 < i
  · have b := same.mp a
    omega
  · have b : ¬ 25 < j := fun z => a (same.mpr z)
    omega
theorem all_app (p : Nat → Bool) (a b : List Nat) : (a ++ b).all p = (a.all p && b.all p) := List.all_append
theorem fnd_ok {stem : List Nat} {at_ first k : Nat} (hs : stem.length ≤ 4) (ha : stem.all (fun c => decide (97 ≤ c) && decide (c ≤ 122)) = true) (hk : k < 40) : isNm (fnd stem at_ first k) = true := by
  have e : (fnd stem at_ first k).length = stem.length + (ltr first k).length := by
    unfold fnd
    have := List.length_append (as := stem.take at_) (bs := stem.drop at_)
    rw [List.take_append_drop] at this
    rw [List.length_append, List.length_append]
    omega
  have e2 := ltr_len first k
  have all1 : (fnd stem at_ first k).all (fun c => decide (97 ≤ c) && decide (c ≤ 122)) = true := by
    have split : (stem.take at_ ++ stem.drop at_).all (fun c => decide (97 ≤ c) && decide (c ≤ 122)) = true := by rw [List.take_append_drop]; exact ha
    rw [all_app] at split
    obtain ⟨s1, s2⟩ := Bool.and_eq_true_iff.mp split
    unfold fnd
    rw [all_app, all_app, s1, s2]
    have z : (first + 7 * k) % 26 < 26 := Nat.mod_lt _ (by decide)
    have z2 : k / 26 ≤ 1 := by omega
    unfold ltr
    split <;> simp <;> omega
  unfold isNm
  rw [all1]
  have l1 : 1 ≤ (fnd stem at_ first k).length := by split at e2 <;> omega
  have l2 : (fnd stem at_ first k).length ≤ 6 := by split at e2 <;> omega
  simp [l1, l2]
theorem fnd_nms {stem : List Nat} {at_ first m : Nat} (hs : stem.length ≤ 4) (ha : stem.all (fun c => decide (97 ≤ c) && decide (c ≤ 122)) = true) (hm : m ≤ 40) : Nms ((List.range m).map (fnd stem at_ first)) m :=
  ⟨by simp, nodup_map fun i j hi hj e => fnd_inj (by omega) (by omega) e, fun n hn => by
    obtain ⟨k, hk, rfl⟩ := List.mem_map.mp hn
    exact fnd_ok hs ha (by have := List.mem_range.mp hk; omega)⟩
/-- 'a', 'b', 'aa', 'ab', .. -/
def pairsL : Nat → List (List Nat)
  | 0 => [[97], [98]]
  | k + 1 => pairsL k ++ [(pairsL k).getD k [] ++ [97], (pairsL k).getD k [] ++ [98]]
theorem pairs_len : ∀ k, (pairsL k).length = 2 + 2 * k
  | 0 => rfl
  | k + 1 => by
    show (pairsL k ++ [_, _]).length = _
    rw [List.length_append, pairs_len k]
    show 2 + 2 * k + 2 = _
    omega
theorem pairs_nms : ∀ m, m ≤ 40 → Nms ((pairsL m).take m) m := fun m hm => by
  have z : ∀ i : Fin 41, ((pairsL i).take i).Nodup ∧ (((pairsL i).take i).all isNm) = true := by decide +kernel
  obtain ⟨h1, h2⟩ := z ⟨m, by omega⟩
  exact ⟨by rw [List.length_take, pairs_len]; omega, h1, fun n hn => List.all_eq_true.mp h2 n hn⟩
/-- long + a letter -/
def endL (long : List Nat) (first k : Nat) : List Nat := long ++ [97 + (first + 7 * k) % 26]
theorem ends_nms {long : List Nat} {first m : Nat} (hs : long.length = 5) (ha : long.all (fun c => decide (97 ≤ c) && decide (c ≤ 122)) = true) (hm : m ≤ 26) : Nms ((List.range m).map (endL long first)) m :=
  ⟨by simp, nodup_map fun i j hi hj e => by
    have h2 := List.append_cancel_left e
    simp only [List.cons.injEq, and_true] at h2
    omega, fun n hn => by
    obtain ⟨k, hk, rfl⟩ := List.mem_map.mp hn
    have z : (first + 7 * k) % 26 < 26 := Nat.mod_lt _ (by decide)
    unfold isNm endL
    rw [all_app, ha]
    simp [hs]
    omega⟩
abbrev wordsT : Str := "places edge rope party pull row undo show reach haul rest free nobody still length a"
def wordsL : List (List Nat) := (Txt.split wordsT " ").map fun s => s.cps.toList
theorem words_eq : Txt.split wordsT " " = wordsL.map sL := by
  unfold wordsL
  rw [List.map_map]
  have : ((fun l => sL l) ∘ fun s : Str => s.cps.toList) = id := by
    funext s
    simp [sL]
  show _ = List.map ((fun l => sL l) ∘ fun s : Str => s.cps.toList) _
  rw [this, List.map_id]
theorem words_nms : Nms wordsL 16 := ⟨by decide +kernel, by decide +kernel, by decide +kernel⟩
/-- the words that are not found, then those found -/
theorem odd_nms {ws fs : List (List Nat)} {m : Nat} (hw : Nms ws 16) (hf : Nms fs m) : Nms ((ws.filter (fun w => !fs.contains w) ++ fs).take m) m := by
  refine nms_take ?_ ?_ (by rw [List.length_append, hf.len]; omega)
  · refine List.nodup_append.mpr ⟨hw.nd.sublist List.filter_sublist, hf.nd, fun a ha b hb e => ?_⟩
    subst e
    have := (List.mem_filter.mp ha).2
    simp at this
    exact this hb
  · intro n hn
    rcases List.mem_append.mp hn with h | h
    · exact hw.ok n (List.mem_filter.mp h).1
    · exact hf.ok n h
end Tg

namespace Tg
open PySem L2 Ow
def top (i : Nat) : Stmt := PySem.Challenge.pw_towgrove_k04_values_that_are_trees.main.body.getD i (.Pass ⟨0, 0, 0, 0⟩)
abbrev sBox : Stmt := top 25
abbrev sTake : Stmt := top 26
abbrev sMixed : Stmt := top 27
abbrev sNames : Stmt := top 28
abbrev sTree : Stmt := top 29
abbrev sLaw : Stmt := top 39
abbrev s_ : Stmt := top 0
abbrev sT_ : Stmt := top 12
abbrev sPleOfStrings_ : Stmt := top 17
abbrev sForm_ : Stmt := top 18
abbrev sPlaces_ : Stmt := top 19
abbrev sByPlace_ : Stmt := top 20
abbrev sAceOrder_ : Stmt := top 21
abbrev sJoined_ : Stmt := top 22
abbrev sChanged_ : Stmt := top 30
abbrev sSize_ : Stmt := top 31
abbrev sIsName_ : Stmt := top 32
abbrev sHasForm_ : Stmt := top 33
abbrev sUnlinked_ : Stmt := top 34
abbrev sDue_ : Stmt := top 35
abbrev sTold_ : Stmt := top 36
abbrev sSpaced_ : Stmt := top 37
abbrev sBent_ : Stmt := top 38
structure TxtB (mg : Str → Option Value) : Prop where
  abs : mg "abs" = none
  len : mg "len" = none
section
variable {P : Program} {w : World} {K : PySem.W.Frag} {mg : Str → Option Value} {base : Heap}
theorem scTake : FnScope ["_law_box_here", "_law_many", "_law_digit", "_law_one"] ["_law_box_here", "_law_many"] (defScope sTake) := ⟨rfl, rfl, rfl, by decide +kernel, rfl, by decide +kernel, by decide +kernel⟩
theorem ok_take {f : Addr} {fd : FuncData} (F : Fun K "_law_take" "_law_take" sTake f fd) (T : TxtB mg) : FnOk P w K mg base CX0 1 f fd ["_law_box_here", "_law_many"] spTake := by
  refine F.ok scTake (fun vs H Q E h => ?_) (fun cdv A outer s H vs Q E hr h => ?_)
  · obtain ⟨b, L, m, rfl, _⟩ := h
    rfl
  · obtain ⟨b, L, m, rfl, m0, m9, ⟨gs, now, seed, turn, B⟩, k⟩ := h
    have hu := hu_of hr
    have nd := scTake.nd
    refine ⟨_, pss_cons (ps_if (PW.pt (pw_and (pt_cmpR op_eq (pe_dget hu (pv 0) pe_str (fun _ _ => rfl)) pe_int (nomark _)) (pw_and1 (pt_cmpR op_gt (pe_callB call_len_seq (by rfl) T.len PySem.boot_len (pa_cons (pe_dget hu (pv 0) pe_str (fun _ _ => rfl)) pa_nil)) pe_int (nomark _)))))
        (pss_one (ps_dput hu (pv 0) pe_str (pe_bm0 PySem.F.plainAttrs_list PySem.F.slot_list_pop PySem.F.type_list_pop mt_pop (pe_dget hu (pv 0) pe_str (fun _ _ => rfl))) rfl)) pss_nil)
      (pss_cons (ps_if (pt_cmpR op_gt (pe_dget hu (pv 0) pe_str (fun _ _ => rfl)) pe_int (nomark _))
        (pss_cons (ps_set (i := 2) nd rfl (.inl rfl) (pe_op op_mod (pe_dget hu (pv 0) pe_str (fun _ _ => rfl)) (pv 1)))
        (pss_cons (ps_dput hu (pv 0) pe_str (pe_op op_fdivW (pe_dget hu (pv 0) pe_str (fun _ _ => rfl)) (pv 1)) rfl)
        (pss_one (ps_ret (pv 2))))) pss_nil)
      (pss_cons (ps_dput hu (pv 0) pe_str (pe_op op_add (pe_dget hu (pv 0) pe_str (fun _ _ => rfl)) pe_int) rfl)
      (pss_cons (ps_set (i := 3) nd rfl (.inl rfl) (pe_op op_mod (pe_op op_mul (pe_op op_mod (pe_op op_add (pe_dget hu (pv 0) pe_str (fun _ _ => rfl)) (pe_op op_mul pe_int (pe_dget hu (pv 0) pe_str (fun _ _ => rfl)))) pe_int) pe_int) pe_int))
      (pss_cons (ps_dput hu (pv 0) pe_str (pe_op op_add (pe_op op_mod (pe_op op_add (pv 3) (pe_op op_mul pe_int (pe_dget hu (pv 0) pe_str (fun _ _ => rfl)))) pe_int) pe_int) rfl)
      (pss_one (ps_ret (pe_op op_mod (pe_op op_fdiv (pe_op op_add (pe_op op_mul (pv 3) pe_int) (pe_dget hu (pv 0) pe_str (fun _ _ => rfl))) pe_int) (pv 1)))))))), ?_⟩
    refine seq_rest (fun σ1 H1 => σ1 = [some (.ref b), some (.int m), none, none] ∧ Kp b L H H1 ∧ ∃ gs now seed turn, BoxAt H1 b L gs now seed turn) ?_ (fun rest => ?_)
    · rintro σ1 H1 ⟨rfl, k1, gs, now, seed, turn, B⟩
      refine ⟨_, rfl, b, _, rfl, B.gnow, _, _, rfl, rfl, _, rfl, ?_⟩
      refine ite2 (fun hn => ?_) (fun hn => ?_)
      · have hn0 : 0 < now := of_decide_eq_true hn
        refine ⟨_, rfl, b, _, rfl, B.gnow, _, rfl, _, _, rfl, rfl, m0, ?_⟩
        refine ⟨_, rfl, b, _, rfl, B.gnow, _, rfl, _, _, rfl, rfl, ⟨m0, m9⟩, _, rfl, b, _, rfl, B.pnow _, ?_⟩
        obtain ⟨B2, k2⟩ := B.put (turn' := turn) (Int.ediv_nonneg B.now0 (Int.le_of_lt m0)) B.seed0 B.seed1
        refine ⟨_, rfl, ?_⟩
        exact k _ _ (Int.emod_nonneg _ (by omega)) (Int.emod_lt_of_pos _ m0) ⟨_, _, _, _, B2⟩ (k1.trans k2)
      · refine ⟨_, rfl, b, _, rfl, B.gturn, _, _, rfl, rfl, _, rfl, b, _, rfl, B.pturn _, ?_⟩
        obtain ⟨B2, k2⟩ := B.put (turn' := turn + 1) B.now0 B.seed0 B.seed1
        have c1 := B.seed0
        have c2 := B.seed1
        refine ⟨_, rfl, b, _, rfl, B2.gseed, _, rfl, b, _, rfl, B2.gturn, _, _, rfl, rfl, .inl (by omega), _, _, rfl, rfl, _, _, rfl, rfl, pos_lit (by decide), _, _, rfl, rfl, .inr (by omega), _, _, rfl, rfl, pos_lit (by decide), ?_⟩
        generalize (seed + 69623 * (turn + 1)) % 2147483647 * 16807 = z0
        refine ⟨_, rfl, _, rfl, b, _, rfl, B2.gseed, _, _, rfl, rfl, .inl (by omega), _, _, rfl, rfl, _, _, rfl, rfl, pos_lit (by decide), _, _, rfl, rfl, _, rfl, b, _, rfl, B2.pseed _, ?_⟩
        obtain ⟨B3, k3⟩ := B2.put (now' := now) (turn' := turn + 1) (seed' := (z0 % 2147483647 + 3 * seed) % 2147483629 + 1) B.now0 (by omega) (by omega)
        refine ⟨_, rfl, _, _, rfl, rfl, .inr (by omega), _, rfl, b, _, rfl, B3.gseed, _, _, rfl, rfl, _, _, rfl, rfl, ⟨by decide, by decide⟩, _, rfl, _, _, rfl, rfl, m0, ?_⟩
        exact k _ _ (Int.emod_nonneg _ (by omega)) (Int.emod_lt_of_pos _ m0) ⟨_, _, _, _, B3⟩ ((k1.trans k2).trans k3)
    · refine ⟨_, rfl, b, _, rfl, B.gnow, rfl, _, rfl, ?_⟩
      refine ite2 (fun hn => ?_) (fun hn => ?_)
      · refine ⟨_, rfl, b, _, rfl, B.ggreat, _, _, rfl, .inl (SqL.of B.ls), _, _, rfl, rfl, _, rfl, ?_⟩
        refine ite2 (fun hg => ?_) (fun hg => ?_)
        · have hg0 : 0 < (gs.map V.int).length := by
            have := of_decide_eq_true hg
            omega
          have hlast : (gs.map V.int)[(gs.map V.int).length - 1]? = some (V.int (gs.getLast (by intro e; simp [e] at hg0))) := by
            simp [List.getLast_eq_getElem]
          obtain ⟨B2, k2⟩ := B.pop
          refine ⟨_, rfl, b, _, rfl, B.ggreat, .inl ⟨rfl, _, SqL.of B.ls⟩, L, _, _, rfl, rfl, B.ls, hlast, _, rfl, b, _, rfl, B2.pnow _, ?_⟩
          obtain ⟨B3, k3⟩ := B2.put (turn' := turn) (B.pos _ (List.getLast_mem _)) B.seed0 B.seed1
          exact rest _ _ ⟨rfl, k2.trans k3, _, _, _, _, B3⟩
        · exact rest _ _ ⟨rfl, Kp.refl _ _ _, _, _, _, _, B⟩
      · refine iteF ?_
        exact rest _ _ ⟨rfl, Kp.refl _ _ _, _, _, _, _, B⟩
theorem scBox : FnScope ["_law_script", "_law_base", "_law_seed", "_law_cell", "_law_great"] ["_law_script", "_law_base"] (defScope sBox) := ⟨rfl, rfl, rfl, by decide +kernel, rfl, by decide +kernel, by decide +kernel⟩
theorem ok_box {f : Addr} {fd : FuncData} (F : Fun K "_law_box" "_law_box" sBox f fd) (T : TxtB mg) : FnOk P w K mg base CX0 1 f fd ["_law_script", "_law_base"] (spBox K) := by
  refine F.ok scBox (fun vs H Q E h => ?_) (fun cdv A outer s H vs Q E hr h => ?_)
  · obtain ⟨a, ns, e, rfl, _⟩ := h
    rfl
  · obtain ⟨a, ns, e, rfl, hS, hl, e0, e1, k⟩ := h
    have nd := scBox.nd
    refine ⟨_, pss_cons (ps_set (i := 2) nd rfl (.inl rfl) (pe_op op_add pe_int (pe_op op_mul pe_int (pv 1))))
      (pss_cons (ps_for PassesOwn.never rfl (pi_list (pe_slice sl_list (pv 0) po_none (po_some pe_int))) (pg_name (i := 3) nd rfl (.inl rfl))
        (pss_one (ps_set (i := 2) nd rfl (.inl rfl) (pe_op op_mod (pe_op op_add (pe_op op_add (pe_op op_mul (pv 2) pe_int) (pe_op op_mod (pe_callB call_abs (by rfl) T.abs (by decide +kernel) (pa_cons (pv 3) pa_nil)) pe_int)) pe_int) pe_int))))
      (pss_cons (ps_setLc (i := 4) (own := [("_law_cell", 3)]) (g := gName 3) rfl nd rfl rfl (sw_true rfl rfl rfl (by decide +kernel)) (pi_list (pe_slice sl_list (pv 0) (po_some (pv 1)) (po_some pe_int)))
        (blkOk_by (own := [("_law_cell", 3)]) (N := ["_law_script", "_law_base", "_law_seed", "_law_cell", "_law_great"]) (sc := defScope sBox) (by decide +kernel)) (fun _ _ _ _ _ => pg_name (i := 3) nd rfl (.inl rfl))
        (fun _ _ _ _ _ => pts_one (pt_cmpR op_ge (pe_callB call_abs (by rfl) T.abs (by decide +kernel) (pa_cons (pv 3) pa_nil)) (pe_op op_pow pe_int pe_int) (nomark _)))
        (fun _ _ _ _ _ => pe_callB call_abs (by rfl) T.abs (by decide +kernel) (pa_cons (pv 3) pa_nil)))
      (pss_one (ps_ret (pe_disp (pps_cons pe_str (pe_revL (pv 4)) (pps_cons pe_str pe_int (pps_cons pe_str (pe_op op_add (pv 2) pe_int) (pps_cons pe_str pe_int pps_nil)))) (by rfl) (by rfl) (fun z => by cases z) (by decide)))))), ?_⟩
    refine ⟨_, rfl, _, _, rfl, rfl, .inl (by decide), _, _, rfl, rfl, ?_⟩
    refine ⟨_, rfl, _, rfl, a, _, rfl, hS, fun p hp => ?_⟩
    obtain ⟨ms, em, hm⟩ := cut_ints ns none (some 50)
    rw [em]
    refine ⟨p, rfl, ⟨_, SqL.of upd_same⟩, ?_⟩
    refine for_list (K := K) (a := p) (xs := ms.map V.int) (fun i σ H2 => ∃ (sd : Int) (c : Option V), σ = [some (.ref a), some (.int e), some (.int sd), c, none] ∧ Same (upd H p (.lst (ms.map V.int))) H2 ∧ 0 ≤ sd ∧ sd < 2147483648)
      ⟨_, none, rfl, Same.refl _, by omega, by omega⟩ (fun i σ H2 _ ⟨_, _, _, s2, _⟩ => SqL.of (s2 _ _ upd_same)) ?_ ?_
    · rintro i y σ H2 hi ⟨sd, c, rfl, s2, b0, b1⟩
      obtain ⟨z, hz, rfl⟩ := ints_at hi
      refine ⟨_, rfl, _, _, rfl, rfl, .inr (by decide), _, rfl, _, rfl, _, _, rfl, rfl, pos_lit (by decide), _, _, rfl, rfl, _, _, rfl, rfl, _, _, rfl, rfl, pos_lit (by decide), ?_⟩
      exact ⟨_, some (.int z), rfl, s2, Int.emod_nonneg _ (by decide), Int.lt_trans (Int.emod_lt_of_pos _ (by decide)) (by decide)⟩
    · rintro σ H2 ⟨sd, c, rfl, s2, b0, b1⟩
      have s3 : Same H H2 := (same_upd (Same.refl H) hp).trans s2
      refine ⟨_, rfl, _, rfl, _, rfl, _, rfl, a, _, rfl, s3.seq hS, fun p2 hp2 => ?_⟩
      obtain ⟨ms2, em2, hm2⟩ := cut_ints ns (some e) (some 50)
      rw [em2]
      refine ⟨p2, rfl, ⟨_, SqL.of upd_same⟩, fun D hD => ?_⟩
      have n2 : D ≠ p2 := fun z => by rw [z, upd_same] at hD; cases hD
      have hD2 : H2 D = none := by rw [upd_ne n2] at hD; exact hD
      refine lc_list (K := K) (a := p2) (xs := ms2.map V.int) (fun i H3 => ∃ gs : List Int, H3 D = some (.lst (gs.map V.int)) ∧ gs.length ≤ i ∧ (∀ g ∈ gs, 0 ≤ g) ∧ Same H H3 ∧ H3 p2 = some (.lst (ms2.map V.int)))
        ⟨[], upd_same, Nat.le_refl _, (fun g hg => nomatch hg), same_upd (same_upd s3 (s3.free hp2)) (s3.free hD2), by rw [upd_ne n2.symm, upd_same]⟩ (fun i H3 _ ⟨_, _, _, _, _, e3⟩ => SqL.of e3) ?_ ?_
      · rintro i y H3 hi ⟨gs, g1, g2, g3, g4, g5⟩
        obtain ⟨z, hz, rfl⟩ := ints_at hi
        have hi2 : i < ms2.length := (List.getElem?_eq_some_iff.mp hz).1
        refine ⟨rfl, _, rfl, _, rfl, _, _, rfl, rfl, ⟨by decide, by decide, by decide⟩, _, _, rfl, rfl, _, rfl, ?_⟩
        refine ite2 (fun hz0 => ?_) (fun hz0 => ?_)
        · refine ⟨_, rfl, _, rfl, _, g1, small1000 (by rw [List.length_map]; omega), gs ++ [if z < 0 then -z else z], ?_, ?_, ?_, same_upd g4 (s3.free hD2), ?_⟩
          · rw [upd_same, List.map_append]
            rfl
          · rw [List.length_append]
            exact Nat.succ_le_succ g2
          · intro g hg
            rcases List.mem_append.mp hg with h | h
            · exact g3 g h
            · have e := List.mem_singleton.mp h
              rw [e]
              split <;> omega
          · rw [upd_ne n2.symm]
            exact g5
        · exact ⟨gs, g1, Nat.le_succ_of_le g2, g3, g4, g5⟩
      · rintro H3 ⟨gs, g1, g2, g3, g4, g5⟩
        intro p3 hp3
        have n3 : D ≠ p3 := ne_of_none g1 hp3
        refine ⟨_, rfl, D, _, rfl, SqL.of (by rw [upd_ne n3]; exact g1), fun q hq => ?_⟩
        have n4 : q ≠ p3 := fun z => by rw [z, upd_same] at hq; cases hq
        have hq3 : H3 q = none := by rw [upd_ne n4] at hq; exact hq
        refine ⟨_, rfl, _, _, rfl, rfl, ?_⟩
        refine ⟨by rw [upd_ne n4.symm, upd_same], kvsB q 0 (sd + 1) 0, rfl, (by show 4 ≤ 15; decide), ?_⟩
        rw [merge_kvsB]
        refine k p3 q _ (g4.free hp3) (g4.free hq3) (same_upd (same_upd (same_upd g4 (g4.free hp3)) (g4.free hq3)) (g4.free hp3)) ⟨gs.reverse, 0, sd + 1, 0, upd_same, ?_, by omega, by omega, by omega, fun g hg => g3 g (List.mem_reverse.mp hg)⟩
        rw [upd_ne n4, upd_same, List.map_reverse]
end
theorem Kp.new {b L p : Addr} {H H' : Hp} {o : HO} (k : Kp b L H H') (n : H p = none) : Kp b L H (upd H' p o) := fun a u n1 n2 h => by
  rw [upd_ne (ne_of_none h n)]
  exact k a u n1 n2 h
theorem Box.new {b L p : Addr} {H : Hp} {o : HO} (B : Box b L H) (n : H p = none) : Box b L (upd H p o) := by
  obtain ⟨gs, now, seed, turn, B⟩ := B
  exact ⟨gs, now, seed, turn, by rw [upd_ne (ne_of_none B.dc n)]; exact B.dc, by rw [upd_ne (ne_of_none B.ls n)]; exact B.ls, B.now0, B.seed0, B.seed1, B.pos⟩
theorem Box.apart {b L p : Addr} {H : Hp} (B : Box b L H) (n : H p = none) : p ≠ b ∧ p ≠ L := by
  obtain ⟨gs, now, seed, turn, B⟩ := B
  exact ⟨(ne_of_none B.dc n).symm, (ne_of_none B.ls n).symm⟩
theorem Box.same {b L : Addr} {H H' : Hp} (B : Box b L H) (s : Same H H') : Box b L H' := by
  obtain ⟨gs, now, seed, turn, B⟩ := B
  exact ⟨gs, now, seed, turn, s _ _ B.dc, s _ _ B.ls, B.now0, B.seed0, B.seed1, B.pos⟩
/-- another object of ours is changed -/
theorem Box.put {b L p : Addr} {H : Hp} {o : HO} (B : Box b L H) (n1 : p ≠ b) (n2 : p ≠ L) : Box b L (upd H p o) := by
  obtain ⟨gs, now, seed, turn, B⟩ := B
  exact ⟨gs, now, seed, turn, by rw [upd_ne n1.symm]; exact B.dc, by rw [upd_ne n2.symm]; exact B.ls, B.now0, B.seed0, B.seed1, B.pos⟩
theorem _root_.L2.Same.kp {b L : Addr} {H H1 H2 : Hp} (s : Same H H1) (nb : H b = none) (nL : H L = none) (k : Kp b L H1 H2) : Same H H2 := fun a o e => k a o (ne_of_none e nb) (ne_of_none e nL) (s a o e)
theorem Kp.new2 {b L p : Addr} {H H' : Hp} {o : HO} (k : Kp b L H H') (n : H' p = none) : Kp b L H (upd H' p o) := fun a u n1 n2 h => by
  rw [upd_ne (ne_of_none (k a u n1 n2 h) n)]
  exact k a u n1 n2 h
/-- a list of names -/
def nmV (ns : List (List Nat)) : List V := ns.map fun l => V.str (sL l)
theorem glue_letters : ∀ cs : List Nat, Txt.join "" (cs.map fun c => sL [c]) = sL cs := by
  have step : ∀ (cs : List Nat) (acc : List Nat), (cs.map fun c => sL [c]).foldl (fun acc p => acc ++ (Str.ofString "").cps ++ p.cps) acc.toArray = (acc ++ cs).toArray := by
    intro cs
    induction cs with
    | nil => intro acc; simp
    | cons c cs ih =>
      intro acc
      have e : (Str.ofString "").cps = #[] := by decide +kernel
      simp only [List.map_cons, List.foldl_cons]
      rw [show acc.toArray ++ (Str.ofString "").cps ++ (sL [c]).cps = (acc ++ [c]).toArray from by rw [e]; simp [sL], ih]
      simp
  intro cs
  cases cs with
  | nil => rfl
  | cons c cs =>
    show Str.mk _ = _
    simp only [List.map_cons, List.drop_succ_cons, List.drop_zero, List.headD_cons]
    have := step cs [c]
    unfold sL
    congr 1

/-! ### items in a drawn order -/
structure TxtM (mg : Str → Option Value) : Prop where
  b_list : mg "list" = none
  b_range : mg "range" = none
  b_len : mg "len" = none
def spMixed (K : PySem.W.Frag) : Sp := fun vs H Q _ => ∃ b L l xs, vs = [.ref b, .ref l] ∧ Box b L H ∧ (SqL K H l xs ∨ SqT K H l xs) ∧ xs.length ≤ 1000 ∧
  ∀ p ys H', H p = none → List.Perm ys xs → H' p = some (.lst ys) → Box b L H' → Kp b L H H' → Q (.ref p) H'
theorem perm_pop {α : Type} {f l xs : List α} {k : Nat} {y : α} (h : List.Perm (f ++ l) xs) (hk : l[k]? = some y) : List.Perm ((f ++ [y]) ++ l.eraseIdx k) xs := by
  obtain ⟨hl, e⟩ := List.getElem?_eq_some_iff.mp hk
  have z : List.Perm (y :: l.eraseIdx k) l := by
    have e2 : l = l.take k ++ y :: l.drop (k + 1) := by
      rw [← e, List.getElem_cons_drop hl, List.take_append_drop]
    have e3 : l.eraseIdx k = l.take k ++ l.drop (k + 1) := List.eraseIdx_eq_take_drop_succ l k
    rw [e3]
    conv => rhs; rw [e2]
    exact List.perm_middle.symm
  refine List.Perm.trans ?_ h
  rw [List.append_assoc]
  exact List.Perm.append_left f z
section
variable {P : Program} {w : World} {K : PySem.W.Frag} {mg : Str → Option Value} {base : Heap} {C : Addr}
theorem scMixed : FnScope ["_law_box_here", "_law_items", "_law_left", "_law_found", "_law_turn"] ["_law_box_here", "_law_items"] (defScope sMixed) := ⟨rfl, rfl, rfl, by decide +kernel, rfl, by decide +kernel, by decide +kernel⟩
theorem ok_mixed {f : Addr} {fd : FuncData} (F : Fun K "_law_mixed" "_law_mixed" sMixed f fd) (T : TxtM mg) (cTake : Cal P w K mg base 1 "_law_take" ["_law_box_here", "_law_many"] spTake) : FnOk P w K mg base CX0 2 f fd ["_law_box_here", "_law_items"] (spMixed K) := by
  refine F.ok scMixed (fun vs H Q E h => ?_) (fun cdv A outer s H vs Q E hr h => ?_)
  · obtain ⟨b, L, l, xs, rfl, _⟩ := h
    rfl
  · obtain ⟨b, L, l, xs, rfl, B, hS, hz, k⟩ := h
    have nd := scMixed.nd
    refine ⟨_, (pss_cons (ps_par (i := 2) (j := 3) (by rfl) nd rfl rfl (by decide) rfl rfl (pa_cons (pe_callTy call_list_of (by rfl) T.b_list (by decide +kernel) (pa_cons (pv 1) pa_nil)) (pa_cons (pe_lst pa_nil) pa_nil)) (by rfl))
      (pss_cons (ps_for PassesOwn.never rfl (pi_range1 (by rfl) T.b_range (pa_cons (pe_callB call_len_seq (by rfl) T.b_len PySem.boot_len (pa_cons (pv 2) pa_nil)) pa_nil)) (pg_name (i := 4) nd rfl (.inl rfl))
        (pss_one (ps_expr (pe_bm PySem.F.plainAttrs_list PySem.F.slot_list_append PySem.F.type_list_append mt_append (pv 3) (pa_cons (pe_bm PySem.F.plainAttrs_list PySem.F.slot_list_pop PySem.F.type_list_pop mt_popAt (pv 2) (pa_cons (pe_cal cTake (hr.mono (by decide)) (by rfl) (pa_cons (pv 0) (pa_cons (pe_callB call_len_seq (by rfl) T.b_len PySem.boot_len (pa_cons (pv 2) pa_nil)) pa_nil))) pa_nil)) pa_nil)))))
      (pss_one (ps_ret (pv 3))))), ?_⟩
    refine ⟨_, rfl, l, xs, rfl, hS, fun p1 hp1 => ⟨(by show 0 ≤ sizeLine; decide), fun p2 hp2 => ?_⟩⟩
    have n12 : p1 ≠ p2 := fun z => by rw [← z, upd_same] at hp2; cases hp2
    have hp2' : H p2 = none := by rw [upd_ne n12.symm] at hp2; exact hp2
    obtain ⟨b1, b2⟩ := B.apart hp1
    obtain ⟨b3, b4⟩ := B.apart hp2'
    refine ⟨_, _, rfl, ?_⟩
    have e1 : (upd (upd H p1 (.lst xs)) p2 (.lst [])) p1 = some (.lst xs) := by rw [upd_ne n12, upd_same]
    refine ⟨_, rfl, p1, xs, rfl, .inl (SqL.of e1), _, rfl, (by omega), (by omega), ?_⟩
    refine for_range (n := xs.length) (fun i σ H1 => ∃ (left found : List V) (v : Option V), σ = [some (.ref b), some (.ref l), some (.ref p1), some (.ref p2), v] ∧ H1 p1 = some (.lst left) ∧ H1 p2 = some (.lst found) ∧ List.Perm (found ++ left) xs ∧ found.length = i ∧ Box b L H1 ∧ Kp b L H H1)
      ⟨xs, [], none, rfl, e1, upd_same, List.Perm.refl _, rfl, (B.new hp1).new hp2, ((Kp.refl b L H).new hp1).new hp2'⟩ ?_ ?_
    · rintro i σ H1 hi ⟨left, found, v, rfl, h1, h2, pm, hf, B1, k1⟩
      have hl : left.length + i = xs.length := by
        have := pm.length_eq
        rw [List.length_append] at this
        omega
      have hl0 : 0 < left.length := by omega
      refine ⟨_, rfl, .inl ⟨rfl, _, SqL.of h2⟩, _, rfl, .inl ⟨rfl, _, SqL.of h1⟩, _, rfl, _, rfl, p1, left, rfl, .inl (SqL.of h1), b, L, _, rfl, by omega, ?_, B1, fun d H2 d0 d1 B2 k2 => ?_⟩
      · have : (left.length : Int).natAbs < 2 ^ 20 := by
          have e : (2 : Nat) ^ 20 = 1048576 := by decide
          omega
        exact Nat.lt_of_lt_of_le (PySem.Flt.log2_lt_of (by decide) this) (by decide)
      have h1' := k2 _ _ b1 b2 h1
      have h2' := k2 _ _ b3 b4 h2
      obtain ⟨y, hy⟩ : ∃ y, left[d.toNat]? = some y := ⟨left[d.toNat], List.getElem?_eq_getElem (by omega)⟩
      refine ⟨p1, left, d, d.toNat, y, rfl, rfl, h1', by omega, by omega, seqIndex_of d0 d1, hy, ?_⟩
      refine ⟨p2, _, _, rfl, rfl, (by rw [upd_ne n12.symm]; exact h2'), small1000 (by omega), ?_⟩
      refine ⟨left.eraseIdx d.toNat, found ++ [y], _, rfl, (by rw [upd_ne n12, upd_same]), upd_same, perm_pop pm hy, by rw [List.length_append]; simp [hf], (B2.put b1 b2).put b3 b4, fun c o c1 c2 hc => ?_⟩
      rw [upd_ne (ne_of_none hc hp2'), upd_ne (ne_of_none hc hp1)]
      exact k2 c o c1 c2 (k1 c o c1 c2 hc)
    · rintro σ H1 ⟨left, found, v, rfl, h1, h2, pm, hf, B1, k1⟩
      have hl := pm.length_eq
      rw [List.length_append] at hl
      have e : left = [] := List.length_eq_zero_iff.mp (by omega)
      subst e
      rw [List.append_nil] at pm
      exact ⟨_, rfl, k p2 found H1 hp2' pm h2 B1 k1⟩
end

structure TxtN (mg : Str → Option Value) : Prop where
  b_range : mg "range" = none
  b_len : mg "len" = none
  b_int : mg "int" = none
  b_min : mg "min" = none
def spNames : Sp := fun vs H Q _ => ∃ b L m, vs = [.ref b, .int (m : Nat)] ∧ m ≤ 40 ∧ Box b L H ∧ ∀ p ns H', H p = none → Nms ns m → H' p = some (.lst (nmV ns)) → Box b L H' → Kp b L H H' → Q (.ref p) H'
abbrev nN : List Str := ["_law_box_here", "_law_many", "_law_letters", "_law_words", "_law_stem", "_law_at", "_law_first", "_law_form", "_law_found", "_law_pairs", "_law_k", "_law_letter", "_law_long", "_law_ends", "_law_odd", "_law_some", "_law_word"]
theorem scNames : FnScope nN ["_law_box_here", "_law_many"] (defScope sNames) := ⟨rfl, rfl, rfl, by decide +kernel, rfl, by decide +kernel, by decide +kernel⟩
theorem op_notInK {X : Cx} (K : PySem.W.Frag) (hK : X.K = K := by rfl) : OpR X (compareOp .NotIn) (rIn K true) := by
  rw [← hK]
  exact op_notIn_seq
abbrev lowC (cs : List Nat) : Bool := cs.all fun c => decide (97 ≤ c) && decide (c ≤ 122)
theorem letters_sum (cs : List Nat) (h : cs.length ≤ 10) : ((cs.map fun c => sL [c]).map (·.length)).sum + (cs.map fun c => sL [c]).length * (Str.ofString "").length ≤ 16777216 := by
  have e : (Str.ofString "").length = 0 := by decide +kernel
  have z : ((cs.map fun c => sL [c]).map (·.length)).sum = cs.length := by
    clear h
    induction cs with
    | nil => rfl
    | cons c cs ih =>
      simp only [List.map_cons, List.sum_cons, ih, sL_len]
      simp
      omega
  rw [e, z]
  omega
theorem low_snoc {cs : List Nat} {d : Nat} (h : lowC cs = true) (hd : d < 26) : lowC (cs ++ [97 + d]) = true := by
  unfold lowC at *
  rw [all_app, h]
  simp
  omega
theorem log_small {i : Int} (h0 : 0 ≤ i) (h1 : i < 1000) : i.natAbs.log2 < 9000 := by
  have : i.natAbs < 2 ^ 10 := by
    have e : (2 : Nat) ^ 10 = 1024 := by decide
    omega
  exact Nat.lt_of_lt_of_le (PySem.Flt.log2_lt_of (by decide) this) (by decide)
def back : V → List Nat
  | .str s => s.cps.toList
  | _ => []
theorem perm_nm {ys : List V} {L : List (List Nat)} (h : List.Perm ys (nmV L)) : ∃ ws, ys = nmV ws ∧ List.Perm ws L := by
  refine ⟨ys.map back, ?_, ?_⟩
  · unfold nmV
    rw [List.map_map]
    refine (List.map_id' ys).symm.trans (List.map_congr_left fun y hy => ?_)
    obtain ⟨l, _, rfl⟩ := List.mem_map.mp (h.mem_iff.mp hy)
    show V.str (sL l) = V.str (sL (back (V.str (sL l))))
    simp [back, sL]
  · have := h.map back
    unfold nmV at this
    rw [List.map_map] at this
    have e : (back ∘ fun l => V.str (sL l)) = id := by
      funext l
      simp [back, sL]
    rw [e, List.map_id] at this
    exact this
theorem Kp.free {b L p : Addr} {H H' : Hp} (k : Kp b L H H') (n : H' p = none) (h1 : p ≠ b) (h2 : p ≠ L) : H p = none := by
  cases e : H p with
  | none => rfl
  | some o =>
    have := k p o h1 h2 e
    rw [n] at this
    cases this
theorem str_a : Str.ofString "a" = sL [97] := by decide +kernel
theorem str_b : Str.ofString "b" = sL [98] := by decide +kernel
theorem pairs_le : ∀ k, ∀ l ∈ pairsL k, l.length ≤ k + 1
  | 0, l, h => by
    simp [pairsL] at h
    rcases h with rfl | rfl <;> simp
  | k + 1, l, h => by
    have ih := pairs_le k
    have g : ((pairsL k).getD k []).length ≤ k + 1 := by
      have hk : k < (pairsL k).length := by rw [pairs_len]; omega
      rw [List.getD_eq_getElem?_getD, List.getElem?_eq_getElem hk]
      exact ih _ (List.getElem_mem hk)
    simp only [pairsL, List.mem_append, List.mem_cons, List.not_mem_nil, or_false] at h
    rcases h with h | rfl | rfl
    · exact Nat.le_succ_of_le (ih l h)
    · rw [List.length_append]; exact Nat.succ_le_succ g
    · rw [List.length_append]; exact Nat.succ_le_succ g
theorem pairs_at (k : Nat) : (nmV (pairsL k))[k]? = some (V.str (sL ((pairsL k).getD k []))) ∧ ((pairsL k).getD k []).length ≤ k + 1 := by
  have hk : k < (pairsL k).length := by rw [pairs_len]; omega
  refine ⟨?_, ?_⟩
  · unfold nmV
    rw [List.getElem?_map, List.getD_eq_getElem?_getD, List.getElem?_eq_getElem hk]
    rfl
  · rw [List.getD_eq_getElem?_getD, List.getElem?_eq_getElem hk]
    exact pairs_le k _ (List.getElem_mem hk)
theorem nmV_snoc (ns : List (List Nat)) (l : List Nat) : nmV ns ++ [V.str (sL l)] = nmV (ns ++ [l]) := by
  unfold nmV
  rw [List.map_append]
  rfl
theorem nmV_len (ns : List (List Nat)) : (nmV ns).length = ns.length := List.length_map ..
theorem ltr_str (first k : Nat) (c : Bool) (hc : c = decide (25 < k)) : sL [97 + (first + 7 * k) % 26] ++ Txt.mul (sL [97 + k / 26]) (if c then 1 else 0) = sL (ltr first k) := by
  subst hc
  unfold ltr
  by_cases h : 25 < k
  · simp only [h, decide_true, if_true]
    rw [mul1, sL_add]
    rfl
  · simp only [h, decide_false, if_false]
    rw [show (if false = true then (1 : Int) else 0) = 0 from rfl, mul0, sL_add]
    rfl
theorem cut_nm (ls : List (List Nat)) (m : Nat) : cutV (nmV ls) none (some (m : Int)) = nmV (ls.take m) := by
  unfold cutV nmV
  rw [HT.sIx_nat, HT.sIx_none, List.drop_zero, Nat.sub_zero, List.length_map, ← List.map_take]
  congr 1
  rw [Nat.min_def]
  split
  · rfl
  · rw [List.take_of_length_le (Nat.le_refl _), List.take_of_length_le (by omega)]
theorem inV_nm (w : List Nat) (fs : List (List Nat)) : inV (V.str (sL w)) (nmV fs) = fs.contains w := by
  unfold inV nmV
  induction fs with
  | nil => rfl
  | cons f fs ih =>
    simp only [List.map_cons, List.any_cons, List.contains_cons, ih]
    congr 1
    by_cases h : w = f
    · subst h
      show (sL w == sL w) = (w == w)
      simp
    · have h2 : ¬ sL w = sL f := fun z => h (sL_inj z)
      have h3 : ¬ sL f = sL w := fun z => h2 z.symm
      have h4 : ¬ f = w := fun z => h z.symm
      show (sL f == sL w) = (w == f)
      rw [beq_eq_false_iff_ne.mpr h3, beq_eq_false_iff_ne.mpr h]
theorem flat_nm (fs : List (List Nat)) : (nmV fs).all flatV = true := by
  unfold nmV
  simp [List.all_map, flatV]
section
variable {P : Program} {w : World} {K : PySem.W.Frag} {mg : Str → Option Value} {base : Heap}
theorem ok_names {f : Addr} {fd : FuncData} (F : Fun K "_law_names" "_law_names" sNames f fd) (T : TxtN mg) (cTake : Cal P w K mg base 1 "_law_take" ["_law_box_here", "_law_many"] spTake)
    (cMixed : Cal P w K mg base 2 "_law_mixed" ["_law_box_here", "_law_items"] (spMixed K)) : FnOk P w K mg base CX0 3 f fd ["_law_box_here", "_law_many"] spNames := by
  refine F.ok scNames (fun vs H Q E h => ?_) (fun cdv A outer s H vs Q E hr h => ?_)
  · obtain ⟨b, L, m, rfl, _⟩ := h
    rfl
  · obtain ⟨b, L0, m, rfl, hm, B, k⟩ := h
    have nd := scNames.nd
    refine ⟨_, (pss_cons (ps_set (i := 2) nd rfl (.inr rfl) pe_str)
      (pss_cons (ps_set (i := 3) nd rfl (.inl rfl) (pe_split pe_str pe_str))
      (pss_cons (ps_set (i := 4) nd rfl (.inl rfl) (pe_join pe_str (pe_lc (own := [("_law_k", 10)]) (g := gName 10) rfl nd (pi_range1 (by rfl) T.b_range (pa_cons (pe_cal cTake (hr.mono (by decide)) (by rfl) (pa_cons (pv 0) (pa_cons pe_int pa_nil))) pa_nil)) (blkOk_by (own := [("_law_k", 10)]) (N := nN) (sc := defScope sNames) (by decide +kernel)) (fun _ _ _ _ _ => (pg_name (i := 10) nd rfl (.inl rfl))) (fun _ _ _ _ _ => pts_nil) (fun _ _ _ _ _ => (pe_ix ix_str (pv 2) (pe_cal cTake (hr.mono (by decide)) (by rfl) (pa_cons (pv 0) (pa_cons pe_int pa_nil))) (fun _ _ => rfl))))))
      (pss_cons (ps_asg (pe_tup (pa_cons (pe_cal cTake (hr.mono (by decide)) (by rfl) (pa_cons (pv 0) (pa_cons (pe_op op_add (pe_callB call_len_str (by rfl) T.b_len PySem.boot_len (pa_cons (pv 4) pa_nil)) pe_int) pa_nil))) (pa_cons (pe_cal cTake (hr.mono (by decide)) (by rfl) (pa_cons (pv 0) (pa_cons pe_int pa_nil))) (pa_cons (pe_cal cTake (hr.mono (by decide)) (by rfl) (pa_cons (pv 0) (pa_cons pe_int pa_nil))) pa_nil)))) (pg_tup (by rfl) (pgs_cons (pg_name (i := 5) nd rfl (.inl rfl)) (pgs_cons (pg_name (i := 6) nd rfl (.inr rfl)) (pgs_cons (pg_name (i := 7) nd rfl (.inl rfl)) pgs_nil)))))
      (pss_cons (ps_asg (pe_tup (pa_cons (pe_lst pa_nil) (pa_cons (pe_cal cMixed (hr.mono (by decide)) (by rfl) (pa_cons (pv 0) (pa_cons (pv 3) pa_nil))) (pa_cons (pe_lst (pa_cons pe_str (pa_cons pe_str pa_nil))) pa_nil)))) (pg_tup (by rfl) (pgs_cons (pg_name (i := 8) nd rfl (.inr rfl)) (pgs_cons (pg_name (i := 3) nd rfl (.inl rfl)) (pgs_cons (pg_name (i := 9) nd rfl (.inl rfl)) pgs_nil)))))
      (pss_cons (ps_for PassesOwn.never rfl (pi_range1 (by rfl) T.b_range (pa_cons (pv 1) pa_nil)) (pg_name (i := 10) nd rfl (.inl rfl))
        (pss_cons (ps_set (i := 11) nd rfl (.inl rfl) (pe_op op_add_str (pe_ix ix_str (pv 2) (pe_op op_mod (pe_op op_add (pv 6) (pe_op op_mul pe_int (pv 10))) pe_int) (fun _ _ => rfl)) (pe_op op_mulStr (pe_ix ix_str (pv 2) (pe_op op_fdiv (pv 10) pe_int) (fun _ _ => rfl)) (pe_callTy call_int1 (by rfl) T.b_int (by decide +kernel) (pa_cons (pe_cmpR op_gt (pv 10) pe_int (nomark _)) pa_nil)))))
          (pss_cons (ps_expr (pe_bm PySem.F.plainAttrs_list PySem.F.slot_list_append PySem.F.type_list_append mt_append (pv 8) (pa_cons (pe_op op_add_str (pe_op op_add_str (pe_slice sl_str (pv 4) po_none (po_some (pv 5))) (pv 11)) (pe_slice sl_str (pv 4) (po_some (pv 5)) po_none)) pa_nil)))
          (pss_one (ps_expr (pe_bm PySem.F.plainAttrs_list PySem.F.slot_list_extend PySem.F.type_list_extend mt_extend (pv 9) (pa_cons (pe_lst (pa_cons (pe_op op_add_str (pe_ix ix_list (pv 9) (pv 10) (fun _ _ => rfl)) pe_str) (pa_cons (pe_op op_add_str (pe_ix ix_list (pv 9) (pv 10) (fun _ _ => rfl)) pe_str) pa_nil))) pa_nil)))))))
      (pss_cons (ps_set (i := 12) nd rfl (.inr rfl) (pe_join pe_str (pe_lc (own := [("_law_k", 10)]) (g := gName 10) rfl nd (pi_range1 (by rfl) T.b_range (pa_cons pe_int pa_nil)) (blkOk_by (own := [("_law_k", 10)]) (N := nN) (sc := defScope sNames) (by decide +kernel)) (fun _ _ _ _ _ => (pg_name (i := 10) nd rfl (.inl rfl))) (fun _ _ _ _ _ => pts_nil) (fun _ _ _ _ _ => (pe_ix ix_str (pv 2) (pe_cal cTake (hr.mono (by decide)) (by rfl) (pa_cons (pv 0) (pa_cons pe_int pa_nil))) (fun _ _ => rfl))))))
      (pss_cons (ps_setLc (i := 13) (own := [("_law_k", 10)]) (g := gName 10) rfl nd rfl rfl (sw_true rfl rfl rfl (by decide +kernel)) (pi_range1 (by rfl) T.b_range (pa_cons (pe_callB (call_min2 rfl) (by rfl) T.b_min (by decide +kernel) (pa_cons (pv 1) (pa_cons pe_int pa_nil))) pa_nil)) (blkOk_by (own := [("_law_k", 10)]) (N := nN) (sc := defScope sNames) (by decide +kernel)) (fun _ _ _ _ _ => (pg_name (i := 10) nd rfl (.inl rfl))) (fun _ _ _ _ _ => pts_nil) (fun _ _ _ _ _ => (pe_op op_add_str (pv 12) (pe_ix ix_str (pv 2) (pe_op op_mod (pe_op op_add (pv 6) (pe_op op_mul pe_int (pv 10))) pe_int) (fun _ _ => rfl)))))
      (pss_cons (ps_set (i := 14) nd rfl (.inl rfl) (pe_op op_cat (pe_lc (own := [("_law_word", 16)]) (g := gName 16) rfl nd (pi_list (pv 3)) (blkOk_by (own := [("_law_word", 16)]) (N := nN) (sc := defScope sNames) (by decide +kernel)) (fun _ _ _ _ _ => (pg_name (i := 16) nd rfl (.inl rfl))) (fun _ _ _ _ _ => pts_one (pt_cmpR (op_notInK K) (pv 16) (pv 8) rfl)) (fun _ _ _ _ _ => (pv 16))) (pv 8)))
      (pss_cons (ps_set (i := 15) nd rfl (.inl rfl) (pe_lst (pa_cons (pv 14) (pa_cons (pv 9) (pa_cons (pe_ix ix_list (pe_lst (pa_cons (pv 13) (pa_cons (pv 8) pa_nil))) (pe_callTy call_int1 (by rfl) T.b_int (by decide +kernel) (pa_cons (pe_cmpR op_gt (pv 1) pe_int (nomark _)) pa_nil)) (fun _ _ => rfl)) (pa_cons (pv 8) (pa_cons (pv 8) pa_nil)))))))
      (pss_one (ps_ret (pe_cal cMixed (hr.mono (by decide)) (by rfl) (pa_cons (pv 0) (pa_cons (pe_slice sl_list (pe_ix ix_list (pv 15) (pv 7) (fun _ _ => rfl)) po_none (po_some (pv 1))) pa_nil))))))))))))))), ?_⟩
    -- words
    refine ⟨⟨_, rfl⟩, _, _, rfl, rfl, (by decide +kernel), (by decide +kernel), fun pw npw => ?_⟩
    have e1 : (Txt.split wordsT " ").map V.str = nmV wordsL := by
      rw [words_eq]
      unfold nmV
      rw [List.map_map]
      rfl
    have lw : (upd H pw (.lst ((Txt.split wordsT " ").map V.str))) pw = some (.lst (nmV wordsL)) := by rw [upd_same, e1]
    have B1 := B.new (o := .lst ((Txt.split wordsT " ").map V.str)) npw
    have k1 : Kp b L0 H (upd H pw (.lst ((Txt.split wordsT " ").map V.str))) := Kp.new2 (Kp.refl b L0 H) npw
    obtain ⟨w1, w2⟩ := B.apart npw
    generalize upd H pw (.lst ((Txt.split wordsT " ").map V.str)) = H1 at lw B1 k1 ⊢
    try dsimp only [tNext]
    -- stem
    refine ⟨⟨_, rfl⟩, _, rfl, b, L0, 5, rfl, by decide, by decide +kernel, B1, fun d1 H2 a1 c1 B2 k2 => ⟨_, rfl, by omega, by omega, fun D hD => ?_⟩⟩
    have lw := k2 _ _ w1 w2 lw
    have k02 := k1.trans k2
    obtain ⟨n1, n2⟩ := B2.apart hD
    refine lc_range (n := d1.toNat) (fun t H3 => ∃ cs : List Nat, H3 D = some (.lst (cs.map fun c => V.str (sL [c]))) ∧ cs.length = t ∧ lowC cs = true ∧ Box b L0 H3 ∧ Kp b L0 H2 H3) ⟨[], upd_same, rfl, rfl, B2.new hD, Kp.new2 (Kp.refl b L0 H2) hD⟩ ?_ ?_
    · rintro t H3 ht ⟨cs, e1, l1, a1, B3, k3⟩
      refine ⟨rfl, _, rfl, _, rfl, b, L0, 26, rfl, by decide, by decide +kernel, B3, fun d H4 a4 c4 B4 k4 => ?_⟩
      obtain ⟨dn, rfl⟩ : ∃ dn : Nat, d = dn := ⟨d.toNat, by omega⟩
      refine ⟨_, _, 97 + dn, rfl, rfl, (by decide +kernel), letter_at dn (by omega), _, k4 D _ n1 n2 e1, small1000 (by rw [List.length_map]; omega), cs ++ [97 + dn], ?_, by simp [l1], low_snoc a1 (by omega), B4.put n1 n2, ?_⟩
      · rw [upd_same, List.map_append]
        rfl
      · exact Kp.new (k3.trans k4) hD
    rintro H3 ⟨stem, e1, l1, lows, B3, k3⟩
    have l4 : stem.length ≤ 4 := by omega
    have k03 := k02.trans k3
    have lw := k3 _ _ w1 w2 lw
    refine ⟨_, D, stem.map (fun c => sL [c]), rfl, rfl, .inl (SqL.of (by rw [List.map_map]; exact e1)), letters_sum stem (by omega), ?_⟩
    rw [glue_letters]
    clear e1 hD n1 n2 k2 k3 B2 B1 k1 k02
    try dsimp only [tNext]
    -- at, first, form
    refine ⟨_, rfl, _, rfl, _, rfl, (by rw [sL_len, sizeLine_eq]; omega), _, _, rfl, rfl, b, L0, _, rfl, (by omega), log_small (by omega) (by rw [sL_len]; omega), B3, fun at0 H4 a4 c4 B4 k4 => ?_⟩
    refine ⟨_, rfl, b, L0, 26, rfl, by decide, by decide +kernel, B4, fun first0 H5 a5 c5 B5 k5 => ?_⟩
    refine ⟨_, rfl, b, L0, 5, rfl, by decide, by decide +kernel, B5, fun form H6 a6 c6 B6 k6 => ?_⟩
    rw [sL_len] at c4
    obtain ⟨at_, rfl⟩ : ∃ n : Nat, at0 = n := ⟨at0.toNat, by omega⟩
    obtain ⟨first, rfl⟩ : ∃ n : Nat, first0 = n := ⟨first0.toNat, by omega⟩
    have hat : at_ ≤ stem.length := by omega
    refine ⟨(by show 3 ≤ sizeLine; decide), fun t1 nt1 => ⟨t1, _, rfl, SqT.of upd_same, rfl, _, _, rfl, _, _, rfl, _, _, rfl, rfl, ?_⟩⟩
    have k06 := k03.trans (k4.trans (k5.trans k6))
    have lw := (k4.trans (k5.trans k6)) _ _ w1 w2 lw
    have k07 : Kp b L0 H (upd H6 t1 (.tup [.int at_, .int first, .int form])) := Kp.new2 k06 nt1
    have lw7 : (upd H6 t1 (.tup [.int at_, .int first, .int form])) pw = some (.lst (nmV wordsL)) := by rw [upd_ne (ne_of_none lw nt1)]; exact lw
    have B7 := B6.new (o := .tup [.int at_, .int first, .int form]) nt1
    generalize upd H6 t1 (.tup [.int at_, .int first, .int form]) = H7 at k07 lw7 B7 ⊢
    clear k4 k5 k6 k06 k03 B3 B4 B5 B6 nt1 lw a4 a5 a1 c1
    try dsimp only [tNext]
    -- found, words, pairs
    refine ⟨(by show 0 ≤ sizeLine; decide), fun pf npf => ?_⟩
    have k08 : Kp b L0 H (upd H7 pf (.lst [])) := Kp.new2 k07 npf
    have lf : (upd H7 pf (.lst [])) pf = some (.lst []) := upd_same
    obtain ⟨f1, f2⟩ := B7.apart npf
    have hf0 := Kp.free k07 npf f1 f2
    have B8 := B7.new (o := .lst []) npf
    have lw8 : (upd H7 pf (.lst [])) pw = some (.lst (nmV wordsL)) := by rw [upd_ne (ne_of_none lw7 npf)]; exact lw7
    generalize upd H7 pf (.lst []) = H8 at k08 lf B8 lw8 ⊢
    refine ⟨_, rfl, _, rfl, b, L0, pw, _, rfl, B8, .inl (SqL.of lw8), (by rw [show (nmV wordsL).length = 16 from by decide +kernel]; omega), fun pm ys H9 npm perm lm B9 k9 => ?_⟩
    have lf := k9 _ _ f1 f2 lf
    have k09 := k08.trans k9
    have nmf : pm ≠ pf := fun z => by rw [z, (show H8 pf = some (.lst []) by assumption)] at npm; cases npm
    obtain ⟨ws, rfl, pws⟩ := perm_nm perm
    have hws : Nms ws 16 := words_nms.perm pws
    refine ⟨(by show 2 ≤ sizeLine; decide), fun pp npp => ⟨(by show 3 ≤ sizeLine; decide), fun t2 nt2 => ⟨t2, _, rfl, SqT.of upd_same, rfl, _, _, rfl, _, _, rfl, _, _, rfl, rfl, ?_⟩⟩⟩
    rw [str_a, str_b] at nt2 ⊢
    have lf1 : (upd (upd H9 pp (.lst [.str (sL [97]), .str (sL [98])])) t2 (.tup [.ref pf, .ref pm, .ref pp])) pf = some (.lst []) := by
      have z : (upd H9 pp (.lst [.str (sL [97]), .str (sL [98])])) pf = some (.lst []) := by rw [upd_ne (ne_of_none lf npp)]; exact lf
      rw [upd_ne (ne_of_none z nt2)]
      exact z
    have lm1 : (upd (upd H9 pp (.lst [.str (sL [97]), .str (sL [98])])) t2 (.tup [.ref pf, .ref pm, .ref pp])) pm = some (.lst (nmV ws)) := by
      have z : (upd H9 pp (.lst [.str (sL [97]), .str (sL [98])])) pm = some (.lst (nmV ws)) := by rw [upd_ne (ne_of_none lm npp)]; exact lm
      rw [upd_ne (ne_of_none z nt2)]
      exact z
    have lp1 : (upd (upd H9 pp (.lst [.str (sL [97]), .str (sL [98])])) t2 (.tup [.ref pf, .ref pm, .ref pp])) pp = some (.lst (nmV (pairsL 0))) := by
      have z : (upd H9 pp (.lst [.str (sL [97]), .str (sL [98])])) pp = some (.lst (nmV (pairsL 0))) := upd_same
      rw [upd_ne (ne_of_none z nt2)]
      exact z
    have B10 := (B9.new (o := .lst [.str (sL [97]), .str (sL [98])]) npp).new (o := .tup [.ref pf, .ref pm, .ref pp]) nt2
    have k10 : Kp b L0 H (upd (upd H9 pp (.lst [.str (sL [97]), .str (sL [98])])) t2 (.tup [.ref pf, .ref pm, .ref pp])) := Kp.new2 (Kp.new2 k09 npp) nt2
    have nfp : pf ≠ pp := fun z => by rw [z, npp] at lf; cases lf
    have nmp : pm ≠ pp := fun z => by rw [z, npp] at lm; cases lm
    obtain ⟨p1, p2⟩ := B9.apart npp
    have hp0 := Kp.free k09 npp p1 p2
    generalize upd (upd H9 pp (.lst [.str (sL [97]), .str (sL [98])])) t2 (.tup [.ref pf, .ref pm, .ref pp]) = H10 at lf1 lm1 lp1 B10 k10 ⊢
    obtain ⟨m1, m2⟩ := B8.apart npm
    clear nt2 lf npf k09 k08 k07 lw7 lw8 B7 B8 B9 k9 lm
    try dsimp only [tNext]
    -- the loop
    refine ⟨_, rfl, _, rfl, by omega, by omega, ?_⟩
    refine for_range (n := m) (fun i σ H1 => ∃ v10 v11 v12 v13 v14 v15 v16 : Option V, σ = [some (.ref b), some (.int (m : Nat)), some (.str lettersT), some (.ref pm), some (.str (sL stem)), some (.int at_), some (.int first), some (.int form), some (.ref pf), some (.ref pp), v10, v11, v12, v13, v14, v15, v16] ∧
      H1 pf = some (.lst (nmV ((List.range i).map (fnd stem at_ first)))) ∧ H1 pp = some (.lst (nmV (pairsL i))) ∧ H1 pm = some (.lst (nmV ws)) ∧ Box b L0 H1 ∧ Kp b L0 H H1) ⟨_, _, _, _, _, _, _, rfl, lf1, lp1, lm1, B10, k10⟩ ?_ ?_
    · rintro i σ H1 hi ⟨v10, v11, v12, v13, v14, v15, v16, rfl, lf, lp, lm, BB, kk⟩
      have hmod : (first + 7 * i) % 26 < 26 := Nat.mod_lt _ (by decide)
      -- letter
      refine ⟨_, rfl, _, rfl, _, rfl, _, _, rfl, rfl, .inl (by omega), _, _, rfl, rfl, _, _, rfl, rfl, pos_lit (by decide), ?_⟩
      refine ⟨_, _, 97 + (first + 7 * i) % 26, rfl, rfl, (by decide +kernel), ?_, ?_⟩
      · rw [show ((first : Int) + 7 * (0 + (i : Int))) % 26 = (((first + 7 * i) % 26 : Nat) : Int) from by omega]
        exact letter_at _ hmod
      refine ⟨_, rfl, _, rfl, _, _, rfl, rfl, ⟨by decide, by decide⟩, ?_⟩
      refine ⟨_, _, 97 + i / 26, rfl, rfl, (by decide +kernel), ?_, ?_⟩
      · rw [show (0 + (i : Int)) / 26 = ((i / 26 : Nat) : Int) from by omega]
        exact letter_at _ (by omega)
      refine ⟨_, rfl, _, _, rfl, rfl, .inr ⟨_, rfl, ?_⟩⟩
      have ec : decide ((25 : Int) < 0 + (i : Int)) = decide (25 < i) := by
        by_cases z : 25 < i
        · rw [decide_eq_true z, decide_eq_true (by omega)]
        · rw [decide_eq_false z, decide_eq_false (by omega)]
      have el := ltr_str first i (decide ((25 : Int) < 0 + (i : Int))) ec
      have ml : ({ cps := #[97 + (first + 7 * i) % 26] } : Str).length + (Txt.mul { cps := #[97 + i / 26] } (if decide ((25 : Int) < 0 + (i : Int)) = true then 1 else 0)).length ≤ sizeLine := by
        cases decide ((25 : Int) < 0 + (i : Int))
        · show 1 + 0 ≤ sizeLine
          decide
        · show 1 + 1 ≤ sizeLine
          decide
      refine ⟨_, _, rfl, rfl, PyProof.Rows.mulOk_of 16 1 (by show 1 ≤ 16; decide) (by split <;> decide) (by split <;> decide) (by decide) (by decide), _, _, rfl, rfl, ml, ?_⟩
      have el' : ({ cps := #[97 + (first + 7 * i) % 26] } : Str) ++ Txt.mul { cps := #[97 + i / 26] } (if decide ((25 : Int) < 0 + (i : Int)) = true then 1 else 0) = sL (ltr first i) := el
      try dsimp only [tNext]
      rw [el']
      clear el el' ml ec
      -- found.append(stem[:at] + letter + stem[at:])
      have l2 := ltr_len first i
      have l2' : (ltr first i).length ≤ 2 := by split at l2 <;> omega
      have lt4 : (stem.take at_).length ≤ 4 := by rw [List.length_take]; omega
      have ld4 : (stem.drop at_).length ≤ 4 := by rw [List.length_drop]; omega
      refine ⟨_, rfl, .inl ⟨rfl, _, SqL.of lf⟩, ?_⟩
      refine ⟨_, rfl, _, rfl, _, rfl, _, rfl, (by rw [sL_len, sizeLine_eq]; omega), ?_⟩
      rw [sL_lo stem at_ hat]
      refine ⟨_, rfl, _, _, rfl, rfl, (by rw [sL_len, sL_len, sizeLine_eq]; omega), ?_⟩
      refine ⟨_, rfl, _, rfl, _, rfl, _, rfl, (by rw [sL_len, sizeLine_eq]; omega), ?_⟩
      rw [sL_hi stem at_ hat, sL_add]
      refine ⟨_, _, rfl, rfl, (by rw [sL_len, sL_len, sizeLine_eq, List.length_append]; omega), ?_⟩
      rw [sL_add]
      refine ⟨pf, _, _, rfl, rfl, lf, small1000 (by rw [nmV_len, List.length_map, List.length_range]; omega), ?_⟩
      have lfn : (upd H1 pf (.lst (nmV ((List.range i).map (fnd stem at_ first)) ++ [V.str (sL ((stem.take at_ ++ ltr first i) ++ stem.drop at_))]))) pf = some (.lst (nmV ((List.range (i + 1)).map (fnd stem at_ first)))) := by
        rw [upd_same, nmV_snoc, List.range_succ, List.map_append]
        rfl
      have lpn : (upd H1 pf (.lst (nmV ((List.range i).map (fnd stem at_ first)) ++ [V.str (sL ((stem.take at_ ++ ltr first i) ++ stem.drop at_))]))) pp = some (.lst (nmV (pairsL i))) := by
        rw [upd_ne nfp.symm]
        exact lp
      have lmn : (upd H1 pf (.lst (nmV ((List.range i).map (fnd stem at_ first)) ++ [V.str (sL ((stem.take at_ ++ ltr first i) ++ stem.drop at_))]))) pm = some (.lst (nmV ws)) := by
        rw [upd_ne nmf]
        exact lm
      have BBn := BB.put (o := .lst (nmV ((List.range i).map (fnd stem at_ first)) ++ [V.str (sL ((stem.take at_ ++ ltr first i) ++ stem.drop at_))])) f1 f2
      have kkn : Kp b L0 H (upd H1 pf (.lst (nmV ((List.range i).map (fnd stem at_ first)) ++ [V.str (sL ((stem.take at_ ++ ltr first i) ++ stem.drop at_))]))) := Kp.new kk hf0
      generalize upd H1 pf (.lst (nmV ((List.range i).map (fnd stem at_ first)) ++ [V.str (sL ((stem.take at_ ++ ltr first i) ++ stem.drop at_))])) = H2 at lfn lpn lmn BBn kkn ⊢
      try dsimp only [tNext]
      -- pairs.extend([pairs[k] + 'a', pairs[k] + 'b'])
      obtain ⟨pa, ple⟩ := pairs_at i
      have b97 : (sL ((pairsL i).getD i [])).length + (sL [97]).length ≤ sizeLine := by rw [sL_len, sL_len, sizeLine_eq]; show _ + 1 ≤ _; omega
      have b98 : (sL ((pairsL i).getD i [])).length + (sL [98]).length ≤ sizeLine := by rw [sL_len, sL_len, sizeLine_eq]; show _ + 1 ≤ _; omega
      have pa' : atI (nmV (pairsL i)) (0 + (i : Int)) = some (V.str (sL ((pairsL i).getD i []))) := by
        rw [Int.zero_add]
        exact atI_nat pa
      refine ⟨_, rfl, .inl ⟨rfl, _, SqL.of lpn⟩, ?_⟩
      refine ⟨_, rfl, _, rfl, pp, _, _, _, rfl, rfl, SqL.of lpn, pa', _, _, rfl, rfl, b97, ?_⟩
      refine ⟨_, rfl, _, rfl, pp, _, _, _, rfl, rfl, SqL.of lpn, pa', _, _, rfl, rfl, b98, ?_⟩
      refine ⟨(by show 2 ≤ sizeLine; decide), fun q nq => ?_⟩
      rw [sL_add, sL_add]
      have nqf : q ≠ pf := fun z => by rw [z, lfn] at nq; cases nq
      have nqp : q ≠ pp := fun z => by rw [z, lpn] at nq; cases nq
      have nqm : q ≠ pm := fun z => by rw [z, lmn] at nq; cases nq
      refine ⟨pp, q, _, _, rfl, rfl, (by rw [upd_ne nqp.symm]; exact lpn), upd_same, (by rw [nmV_len, pairs_len, sizeLine_eq]; show 2 + 2 * i + 2 ≤ _; omega), ?_⟩
      refine ⟨_, _, _, _, _, _, _, rfl, ?_, ?_, ?_, (BBn.new nq).put p1 p2, Kp.new (Kp.new2 kkn nq) hp0⟩
      · rw [upd_ne nfp, upd_ne nqf.symm]
        exact lfn
      · rw [upd_same]
        unfold nmV
        rw [show pairsL (i + 1) = pairsL i ++ [(pairsL i).getD i [] ++ [97], (pairsL i).getD i [] ++ [98]] from rfl, List.map_append]
        rfl
      · rw [upd_ne nmp, upd_ne nqm.symm]
        exact lmn
    · rintro σ H1 ⟨v10, v11, v12, v13, v14, v15, v16, rfl, lf, lp, lm, BB, kk⟩
      clear lf1 lm1 lp1 B10 k10
      have fN := fnd_nms (stem := stem) (at_ := at_) (first := first) (m := m) l4 lows hm
      -- long
      refine ⟨⟨_, rfl⟩, _, rfl, by decide, by decide, fun D hD => ?_⟩
      obtain ⟨n1, n2⟩ := BB.apart hD
      refine lc_range (n := 5) (fun t H3 => ∃ cs : List Nat, H3 D = some (.lst (cs.map fun c => V.str (sL [c]))) ∧ cs.length = t ∧ lowC cs = true ∧ Box b L0 H3 ∧ Kp b L0 H1 H3) ⟨[], upd_same, rfl, rfl, BB.new hD, Kp.new2 (Kp.refl b L0 H1) hD⟩ ?_ ?_
      · rintro t H3 ht ⟨cs, e1, l1, a1, B3, k3⟩
        refine ⟨rfl, _, rfl, _, rfl, b, L0, 25, rfl, by decide, by decide +kernel, B3, fun d H4 a4 c4 B4 k4 => ?_⟩
        obtain ⟨dn, rfl⟩ : ∃ dn : Nat, d = dn := ⟨d.toNat, by omega⟩
        refine ⟨_, _, 97 + dn, rfl, rfl, (by decide +kernel), letter_at dn (by omega), _, k4 D _ n1 n2 e1, small1000 (by rw [List.length_map]; omega), cs ++ [97 + dn], ?_, by simp [l1], low_snoc a1 (by omega), B4.put n1 n2, ?_⟩
        · rw [upd_same, List.map_append]
          rfl
        · exact Kp.new (k3.trans k4) hD
      rintro H3 ⟨long, e1, l5, lows5, B3, k3⟩
      refine ⟨_, D, long.map (fun c => sL [c]), rfl, rfl, .inl (SqL.of (by rw [List.map_map]; exact e1)), letters_sum long (by omega), ?_⟩
      rw [glue_letters]
      have lf := k3 _ _ f1 f2 lf
      have lp := k3 _ _ p1 p2 lp
      have lm := k3 _ _ m1 m2 lm
      have kk := kk.trans k3
      clear e1 hD n1 n2 k3 BB
      try dsimp only [tNext]
      -- ends
      refine ⟨_, rfl, _, _, rfl, _, rfl, ?_, ?_, fun D hD => ?_⟩
      · split <;> omega
      · split <;> omega
      have en : (if (26 : Int) < (m : Int) then (26 : Int) else (m : Int)).toNat = min m 26 := by split <;> omega
      rw [en]
      refine lc_range (n := min m 26) (fun t H4 => H4 D = some (.lst (nmV ((List.range t).map (endL long first)))) ∧ Same H3 H4) ⟨upd_same, same_upd (Same.refl _) hD⟩ ?_ ?_
      · rintro t H4 ht ⟨e1, s4⟩
        have hmod : (first + 7 * t) % 26 < 26 := Nat.mod_lt _ (by decide)
        refine ⟨rfl, _, rfl, _, rfl, _, rfl, _, rfl, _, _, rfl, rfl, .inl (by omega), _, _, rfl, rfl, _, _, rfl, rfl, pos_lit (by decide), ?_⟩
        refine ⟨_, _, 97 + (first + 7 * t) % 26, rfl, rfl, (by decide +kernel), ?_, ?_⟩
        · rw [show ((first : Int) + 7 * (0 + (t : Int))) % 26 = (((first + 7 * t) % 26 : Nat) : Int) from by omega]
          exact letter_at _ hmod
        refine ⟨_, _, rfl, rfl, (by rw [sL_len, sizeLine_eq]; show _ + 1 ≤ _; omega), _, e1, small1000 (by rw [nmV_len, List.length_map, List.length_range]; omega), ?_, same_upd s4 hD⟩
        rw [upd_same, List.range_succ, List.map_append]
        unfold nmV
        rw [List.map_append]
        show some (HO.lst (_ ++ [V.str (sL long ++ sL [97 + (first + 7 * t) % 26])])) = _
        rw [sL_add]
        rfl
      rintro H4 ⟨le, s4⟩
      have lf := s4 _ _ lf
      have lp := s4 _ _ lp
      have lm := s4 _ _ lm
      have B4 := B3.same s4
      have kk : Kp b L0 H H4 := kk.trans fun a o _ _ e => s4 a o e
      clear s4 hD en B3
      try dsimp only [tNext]
      -- odd
      refine ⟨_, rfl, pm, rfl, ⟨_, SqL.of lm⟩, fun D2 hD2 => ?_⟩
      refine lc_list (K := K) (a := pm) (xs := nmV ws) (fun t H5 => H5 D2 = some (.lst (nmV ((ws.take t).filter (fun x => !((List.range m).map (fnd stem at_ first)).contains x)))) ∧ Same H4 H5) ⟨upd_same, same_upd (Same.refl _) hD2⟩ (fun t H5 _ ⟨_, s5⟩ => SqL.of (s5 _ _ lm)) ?_ ?_
      · rintro t x H5 hx ⟨e1, s5⟩
        obtain ⟨y, hy, rfl⟩ : ∃ y, ws[t]? = some y ∧ x = V.str (sL y) := by
          unfold nmV at hx
          rw [List.getElem?_map] at hx
          cases e : ws[t]? with
          | none => rw [e] at hx; cases hx
          | some z => rw [e] at hx; exact ⟨z, rfl, (Option.some.inj hx).symm⟩
        have tk : ws.take (t + 1) = ws.take t ++ [y] := by
          rw [List.take_add_one, hy]
          rfl
        refine ⟨rfl, _, rfl, _, rfl, pf, _, rfl, .inl (SqL.of (s5 _ _ lf)), rfl, flat_nm _, _, rfl, ?_⟩
        rw [inV_nm]
        have small : (nmV ((ws.take t).filter (fun x => !((List.range m).map (fnd stem at_ first)).contains x))).length < 1000 := by
          rw [nmV_len]
          have z1 := List.length_filter_le (fun x => !((List.range m).map (fnd stem at_ first)).contains x) (ws.take t)
          have z2 : (ws.take t).length ≤ 16 := by rw [List.length_take, hws.len]; omega
          omega
        refine ite2 (fun c0 => ?_) (fun c0 => ?_)
        · refine ⟨_, rfl, _, e1, small1000 (by omega), ?_, same_upd s5 hD2⟩
          rw [upd_same, tk, List.filter_append, nmV_snoc]
          have c1 : (!((List.range m).map (fnd stem at_ first)).contains y) = true := c0
          simp only [List.filter_cons, c1, if_true, List.filter_nil]
        · refine ⟨?_, s5⟩
          rw [tk, List.filter_append]
          have c1 : (!((List.range m).map (fnd stem at_ first)).contains y) = false := by simpa using c0
          simp only [List.filter_cons, c1, Bool.false_eq_true, if_false, List.filter_nil, List.append_nil]
          exact e1
      rintro H5 ⟨e1, s5⟩
      rw [show ws.take (nmV ws).length = ws from by rw [nmV_len]; exact List.take_of_length_le (Nat.le_refl _)] at e1
      have lf := s5 _ _ lf
      have lp := s5 _ _ lp
      have le := s5 _ _ le
      have B5 := B4.same s5
      have kk : Kp b L0 H H5 := kk.trans fun a o _ _ e => s5 a o e
      clear s5 hD2 lm B4
      generalize hod : ws.filter (fun x => !((List.range m).map (fnd stem at_ first)).contains x) = odd0 at e1
      refine ⟨_, rfl, D2, pf, _, _, rfl, rfl, e1, lf, ?_, fun po npo => ?_⟩
      · rw [nmV_len, nmV_len, List.length_map, List.length_range, ← hod, sizeLine_eq]
        have z1 := List.length_filter_le (fun x => !((List.range m).map (fnd stem at_ first)).contains x) ws
        have z2 := hws.len
        omega
      have lo : (upd H5 po (.lst (nmV odd0 ++ nmV ((List.range m).map (fnd stem at_ first))))) po = some (.lst (nmV (odd0 ++ (List.range m).map (fnd stem at_ first)))) := by
        rw [upd_same]
        unfold nmV
        rw [List.map_append]
      have s6 : Same H5 (upd H5 po (.lst (nmV odd0 ++ nmV ((List.range m).map (fnd stem at_ first))))) := same_upd (Same.refl _) npo
      have lf := s6 _ _ lf
      have lp := s6 _ _ lp
      have le := s6 _ _ le
      have B6 := B5.same s6
      have kk : Kp b L0 H (upd H5 po (.lst (nmV odd0 ++ nmV ((List.range m).map (fnd stem at_ first))))) := kk.trans fun a o _ _ e => s6 a o e
      generalize upd H5 po (.lst (nmV odd0 ++ nmV ((List.range m).map (fnd stem at_ first)))) = H6 at lo s6 lf lp le B6 kk ⊢
      clear s6 npo e1 B5
      try dsimp only [tNext]
      -- some
      refine ⟨_, rfl, _, rfl, _, rfl, _, rfl, (by show 2 ≤ sizeLine; decide), fun l2 nl2 => ?_⟩
      have s7 : Same H6 (upd H6 l2 (.lst [.ref D, .ref pf])) := same_upd (Same.refl _) nl2
      have ll2 : (upd H6 l2 (.lst [.ref D, .ref pf])) l2 = some (.lst [.ref D, .ref pf]) := upd_same
      have lf := s7 _ _ lf
      have lp := s7 _ _ lp
      have le := s7 _ _ le
      have lo := s7 _ _ lo
      have B7 := B6.same s7
      have kk : Kp b L0 H (upd H6 l2 (.lst [.ref D, .ref pf])) := kk.trans fun a o _ _ e => s7 a o e
      generalize upd H6 l2 (.lst [.ref D, .ref pf]) = H7 at ll2 s7 lf lp le lo B7 kk ⊢
      clear s7 nl2 B6
      have at2 : ∀ c : Bool, atI [V.ref D, V.ref pf] (if c = true then 1 else 0) = some (V.ref (if c = true then pf else D)) := fun c => by cases c <;> rfl
      refine ⟨_, rfl, _, _, rfl, rfl, .inr ⟨_, rfl, l2, _, _, _, rfl, rfl, SqL.of ll2, at2 _, ?_⟩⟩
      refine ⟨_, rfl, _, rfl, (by show 5 ≤ sizeLine; decide), fun ps nps => ?_⟩
      have s8 : Same H7 (upd H7 ps (.lst [.ref po, .ref pp, .ref (if decide ((26 : Int) < (m : Int)) = true then pf else D), .ref pf, .ref pf])) := same_upd (Same.refl _) nps
      have lps : (upd H7 ps (.lst [.ref po, .ref pp, .ref (if decide ((26 : Int) < (m : Int)) = true then pf else D), .ref pf, .ref pf])) ps = some (.lst [.ref po, .ref pp, .ref (if decide ((26 : Int) < (m : Int)) = true then pf else D), .ref pf, .ref pf]) := upd_same
      have lf := s8 _ _ lf
      have lp := s8 _ _ lp
      have le := s8 _ _ le
      have lo := s8 _ _ lo
      have B8 := B7.same s8
      have kk : Kp b L0 H (upd H7 ps (.lst [.ref po, .ref pp, .ref (if decide ((26 : Int) < (m : Int)) = true then pf else D), .ref pf, .ref pf])) := kk.trans fun a o _ _ e => s8 a o e
      generalize upd H7 ps (.lst [.ref po, .ref pp, .ref (if decide ((26 : Int) < (m : Int)) = true then pf else D), .ref pf, .ref pf]) = H8 at lps s8 lf lp le lo B8 kk ⊢
      clear s8 nps B7 ll2 at2
      try dsimp only [tNext]
      -- mixed(box, some[form][:many])
      have it : ∃ (la : Addr) (ls : List (List Nat)), atI [V.ref po, .ref pp, .ref (if decide ((26 : Int) < (m : Int)) = true then pf else D), .ref pf, .ref pf] form = some (.ref la) ∧ H8 la = some (.lst (nmV ls)) ∧ Nms (ls.take m) m := by
        have tkf : ((List.range m).map (fnd stem at_ first)).take m = (List.range m).map (fnd stem at_ first) := List.take_of_length_le (by simp)
        have fT : Nms (((List.range m).map (fnd stem at_ first)).take m) m := by rw [tkf]; exact fN
        rcases (by omega : form = 0 ∨ form = 1 ∨ form = 2 ∨ form = 3 ∨ form = 4) with rfl | rfl | rfl | rfl | rfl
        · refine ⟨po, _, rfl, lo, ?_⟩
          rw [← hod]
          exact odd_nms hws fN
        · exact ⟨pp, _, rfl, lp, pairs_nms m hm⟩
        · by_cases c : (26 : Int) < (m : Int)
          · refine ⟨pf, _, ?_, lf, fT⟩
            rw [decide_eq_true c]
            rfl
          · refine ⟨D, _, ?_, le, ?_⟩
            · rw [decide_eq_false c]
              rfl
            · rw [Nat.min_eq_left (by omega), List.take_of_length_le (by simp)]
              exact ends_nms l5 lows5 (by omega)
        · exact ⟨pf, _, rfl, lf, fT⟩
        · exact ⟨pf, _, rfl, lf, fT⟩
      obtain ⟨la, ls, ia, hla, nls⟩ := it
      refine ⟨_, rfl, _, rfl, _, rfl, ps, _, _, _, rfl, rfl, SqL.of lps, ia, _, rfl, _, rfl, la, _, rfl, SqL.of hla, fun p np => ?_⟩
      rw [cut_nm]
      have B9 := B8.new (o := .lst (nmV (ls.take m))) np
      refine ⟨b, L0, p, _, rfl, B9, .inl (SqL.of upd_same), (by rw [nmV_len, nls.len]; omega), fun r ys H9 nr perm er B10 k10 => ?_⟩
      obtain ⟨ns, rfl, pns⟩ := perm_nm perm
      have k9 := Kp.new2 (o := .lst (nmV (ls.take m))) kk np
      obtain ⟨r1, r2⟩ := B9.apart nr
      exact k r ns H9 (Kp.free k9 nr r1 r2) (nls.perm pns) er B10 (k9.trans k10)
end

theorem perm_map {α β : Type} {f : α → β} {ys zs : List β} (h : List.Perm ys zs) : ∀ L : List α, zs = L.map f → ∃ L', ys = L'.map f ∧ List.Perm L' L := by
  induction h with
  | nil => exact fun L e => ⟨[], rfl, by cases L with
    | nil => exact .nil
    | cons a L => cases e⟩
  | cons x p ih =>
    intro L e
    cases L with
    | nil => cases e
    | cons a L =>
      obtain ⟨e1, e2⟩ := List.cons.inj e
      obtain ⟨L', rfl, pl⟩ := ih L e2
      exact ⟨a :: L', by rw [e1]; rfl, pl.cons a⟩
  | swap x y l =>
    intro L e
    match L, e with
    | a :: c :: L, e =>
      obtain ⟨e1, e2⟩ := List.cons.inj e
      obtain ⟨e3, e4⟩ := List.cons.inj e2
      exact ⟨c :: a :: L, by rw [e1, e3, e4]; rfl, .swap a c L⟩
  | trans _ _ ih1 ih2 =>
    intro L e
    obtain ⟨L2, e2, p2⟩ := ih2 L e
    obtain ⟨L1, e1, p1⟩ := ih1 L2 e2
    exact ⟨L1, e1, p1.trans p2⟩
/-- an edge as it stands: its tuple and its two names -/
abbrev Ed := Addr × (List Nat × List Nat)
def edV (e : Ed) : V := .ref e.1
def EdAt (H : Hp) (e : Ed) : Prop := H e.1 = some (.tup [.str (sL e.2.1), .str (sL e.2.2)])
/-- the tree grows: the i-th edge joins the place behind with an earlier one, in one direction or the other -/
structure Grown (ns : List (List Nat)) (L : List Ed) (k : Nat) : Prop where
  len : L.length = k
  at_ : ∀ i e, L[i]? = some e → ∃ a, a ≤ i ∧ (e.2 = (ns.getD (i + 1) [], ns.getD a []) ∨ e.2 = (ns.getD a [], ns.getD (i + 1) []))
theorem Grown.snoc {ns : List (List Nat)} {L : List Ed} {k : Nat} {e : Ed} (g : Grown ns L k) {a : Nat} (ha : a ≤ k) (h : e.2 = (ns.getD (k + 1) [], ns.getD a []) ∨ e.2 = (ns.getD a [], ns.getD (k + 1) [])) : Grown ns (L ++ [e]) (k + 1) := by
  refine ⟨by rw [List.length_append, g.len]; rfl, fun i d hd => ?_⟩
  by_cases hi : i < L.length
  · rw [List.getElem?_append_left hi] at hd
    exact g.at_ i d hd
  · have hi2 : i = k := by
      have := (List.getElem?_eq_some_iff.mp hd).1
      rw [List.length_append] at this
      have := g.len
      simp at *
      omega
    subst hi2
    rw [List.getElem?_append_right (by rw [g.len]; exact Nat.le_refl _), g.len, Nat.sub_self] at hd
    cases hd
    exact ⟨a, ha, h⟩
/-- what a drawn tree is: places pp, edges pe -/
structure TreeAt (H : Hp) (p : Addr) (most : Nat) (ns ns0 : List (List Nat)) (L L0 : List Ed) : Prop where
  top : ∃ pp pe, H p = some (.tup [.ref pp, .ref pe]) ∧ H pp = some (.tup (nmV ns)) ∧ H pe = some (.tup (L.map edV))
  nm : Nms ns ns.length
  n1 : 1 ≤ ns.length
  n2 : ns.length ≤ most
  pn : List.Perm ns ns0
  pe : List.Perm L L0
  gr : Grown ns0 L0 (ns.length - 1)
  ed : ∀ e ∈ L, EdAt H e
def spTree : Sp := fun vs H Q _ => ∃ b L, ∃ most : Nat, vs = [.ref b, .int (most : Nat)] ∧ 1 ≤ most ∧ most ≤ 40 ∧ Box b L H ∧ ∀ p ns ns0 es es0 H', H p = none → TreeAt H' p most ns ns0 es es0 → Box b L H' → Kp b L H H' → Q (.ref p) H'
structure TxtTr (mg : Str → Option Value) : Prop where
  b_range : mg "range" = none
  b_max : mg "max" = none
  b_tuple : mg "tuple" = none
abbrev tN : List Str := ["_law_box_here", "_law_most", "_law_many", "_law_form", "_law_places", "_law_edges", "_law_k", "_law_above"]
theorem scTree : FnScope tN ["_law_box_here", "_law_most"] (defScope sTree) := ⟨rfl, rfl, rfl, by decide +kernel, rfl, by decide +kernel, by decide +kernel⟩
theorem Kp.apart2 {b L p : Addr} {H : Hp} (B : Box b L H) (n : H p = none) : p ≠ b ∧ p ≠ L := B.apart n
theorem EdAt.kp {b L : Addr} {H H' : Hp} {e : Ed} (h : EdAt H e) (B : Box b L H) (k : Kp b L H H') : EdAt H' e := by
  obtain ⟨gs, now, seed, turn, B⟩ := B
  exact k _ _ (ne_of h B.dc (by intro z; cases z)) (ne_of h B.ls (by intro z; cases z)) h
theorem EdAt.same {H H' : Hp} {e : Ed} (h : EdAt H e) (s : Same H H') : EdAt H' e := s _ _ h
theorem EdAt.lst {H : Hp} {e : Ed} {p : Addr} {xs : List V} {o : HO} (h : EdAt H e) (l : H p = some (.lst xs)) : EdAt (upd H p o) e := by
  unfold EdAt
  rw [upd_ne (ne_of h l (by intro z; cases z))]
  exact h
theorem nm_at {ns : List (List Nat)} {k : Nat} (h : k < ns.length) : (nmV ns)[k]? = some (V.str (sL (ns.getD k []))) := by
  unfold nmV
  rw [List.getElem?_map, List.getD_eq_getElem?_getD, List.getElem?_eq_getElem h]
  rfl
section
variable {P : Program} {w : World} {K : PySem.W.Frag} {mg : Str → Option Value} {base : Heap}
theorem ok_tree {f : Addr} {fd : FuncData} (F : Fun K "_law_tree" "_law_tree" sTree f fd) (T : TxtTr mg) (cTake : Cal P w K mg base 1 "_law_take" ["_law_box_here", "_law_many"] spTake)
    (cMixed : Cal P w K mg base 2 "_law_mixed" ["_law_box_here", "_law_items"] (spMixed K)) (cNames : Cal P w K mg base 3 "_law_names" ["_law_box_here", "_law_many"] spNames) : FnOk P w K mg base CX0 4 f fd ["_law_box_here", "_law_most"] spTree := by
  refine F.ok scTree (fun vs H Q E h => ?_) (fun cdv A outer s H vs Q E hr h => ?_)
  · obtain ⟨b, L, m, rfl, _⟩ := h
    rfl
  · obtain ⟨b, L0, most, rfl, h1, h40, B, k⟩ := h
    have nd := scTree.nd
    refine ⟨_, (pss_cons (ps_par (i := 2) (j := 3) (by rfl) nd rfl rfl (by decide) rfl rfl (pa_cons (pe_op op_add pe_int (pe_cal cTake (hr.mono (by decide)) (by rfl) (pa_cons (pv 0) (pa_cons (pv 1) pa_nil)))) (pa_cons (pe_cal cTake (hr.mono (by decide)) (by rfl) (pa_cons (pv 0) (pa_cons pe_int pa_nil))) pa_nil)) (by rfl))
      (pss_cons (ps_par (i := 4) (j := 5) (by rfl) nd rfl rfl (by decide) rfl rfl (pa_cons (pe_cal cNames (hr.mono (by decide)) (by rfl) (pa_cons (pv 0) (pa_cons (pv 2) pa_nil))) (pa_cons (pe_lst pa_nil) pa_nil)) (by rfl))
      (pss_cons (ps_for PassesOwn.never rfl (pi_range2 (by rfl) T.b_range (pa_cons pe_int (pa_cons (pv 2) pa_nil))) (pg_name (i := 6) nd rfl (.inl rfl))
        (pss_cons (ps_set (i := 7) nd rfl (.inl rfl) (pe_ix ix_list (pe_lst (pa_cons (pe_cal cTake (hr.mono (by decide)) (by rfl) (pa_cons (pv 0) (pa_cons (pv 6) pa_nil))) (pa_cons (pe_cal cTake (hr.mono (by decide)) (by rfl) (pa_cons (pv 0) (pa_cons (pv 6) pa_nil))) (pa_cons (pe_op op_sub (pv 6) pe_int) (pa_cons pe_int (pa_cons (pe_callB (call_max2 rfl) (by rfl) T.b_max (by decide +kernel) (pa_cons pe_int (pa_cons (pe_op op_sub (pe_op op_sub (pv 6) pe_int) (pe_cal cTake (hr.mono (by decide)) (by rfl) (pa_cons (pv 0) (pa_cons pe_int pa_nil)))) pa_nil))) pa_nil)))))) (pv 3) (fun _ _ => rfl)))
          (pss_one (ps_expr (pe_bm PySem.F.plainAttrs_list PySem.F.slot_list_append PySem.F.type_list_append mt_append (pv 5) (pa_cons (pe_ix ix_list (pe_lst (pa_cons (pe_tup (pa_cons (pe_ix ix_list (pv 4) (pv 6) (fun _ _ => rfl)) (pa_cons (pe_ix ix_list (pv 4) (pv 7) (fun _ _ => rfl)) pa_nil))) (pa_cons (pe_tup (pa_cons (pe_ix ix_list (pv 4) (pv 7) (fun _ _ => rfl)) (pa_cons (pe_ix ix_list (pv 4) (pv 6) (fun _ _ => rfl)) pa_nil))) pa_nil))) (pe_cal cTake (hr.mono (by decide)) (by rfl) (pa_cons (pv 0) (pa_cons pe_int pa_nil))) (fun _ _ => rfl)) pa_nil))))))
      (pss_one (ps_ret (pe_tup (pa_cons (pe_callTy call_tuple_of (by rfl) T.b_tuple (by decide +kernel) (pa_cons (pe_cal cMixed (hr.mono (by decide)) (by rfl) (pa_cons (pv 0) (pa_cons (pv 4) pa_nil))) pa_nil)) (pa_cons (pe_callTy call_tuple_of (by rfl) T.b_tuple (by decide +kernel) (pa_cons (pe_cal cMixed (hr.mono (by decide)) (by rfl) (pa_cons (pv 0) (pa_cons (pv 5) pa_nil))) pa_nil)) pa_nil)))))))), ?_⟩
    -- many, form
    refine ⟨_, rfl, _, rfl, b, L0, most, rfl, by omega, log_small (by omega) (by omega), B, fun d1 H1 a1 c1 B1 k1 => ?_⟩
    obtain ⟨dn, rfl⟩ : ∃ n : Nat, d1 = n := ⟨d1.toNat, by omega⟩
    refine ⟨_, _, rfl, rfl, _, rfl, b, L0, 5, rfl, by decide, by decide +kernel, B1, fun form H2 a2 c2 B2 k2 => ⟨_, _, rfl, ?_⟩⟩
    have em : (1 + (dn : Int)) = ((1 + dn : Nat) : Int) := by omega
    try dsimp only [tNext]
    -- places, edges
    refine ⟨_, rfl, _, rfl, b, L0, 1 + dn, (by show [V.ref b, V.int ((1 : Int) + dn)] = _; rw [em]), by omega, B2, fun pn ns H3 npn hns ln B3 k3 => ⟨(by show 0 ≤ sizeLine; decide), fun pe npe => ⟨_, _, rfl, ?_⟩⟩⟩
    have kk := k1.trans (k2.trans k3)
    have nl : ns.length = 1 + dn := hns.len
    have he0 : H pe = none := Kp.free kk npe (B3.apart npe).1 (B3.apart npe).2
    obtain ⟨e1, e2⟩ := B3.apart npe
    obtain ⟨q1, q2⟩ := B2.apart npn
    have npp : pn ≠ pe := fun z => by rw [z, npe] at ln; cases ln
    have ln4 : (upd H3 pe (.lst [])) pn = some (.lst (nmV ns)) := by rw [upd_ne npp]; exact ln
    have le4 : (upd H3 pe (.lst [])) pe = some (.lst (([] : List Ed).map edV)) := upd_same
    have B4 := B3.new (o := .lst []) npe
    have k4 : Kp b L0 H (upd H3 pe (.lst [])) := Kp.new2 kk npe
    generalize upd H3 pe (.lst []) = H4 at ln4 le4 B4 k4 ⊢
    try dsimp only [tNext]
    -- the loop
    refine ⟨_, rfl, _, _, rfl, ⟨by omega, by omega, by omega, by omega⟩, ?_⟩
    refine for_range (lo := 1) (n := ((1 : Int) + dn - 1).toNat) (fun i σ H1 => ∃ (v6 v7 : Option V) (L : List Ed), σ = [some (.ref b), some (.int (most : Nat)), some (.int ((1 : Int) + dn)), some (.int form), some (.ref pn), some (.ref pe), v6, v7] ∧ H1 pn = some (.lst (nmV ns)) ∧ H1 pe = some (.lst (L.map edV)) ∧
      Grown ns L i ∧ (∀ e ∈ L, EdAt H1 e) ∧ Box b L0 H1 ∧ Kp b L0 H H1) ⟨_, _, [], rfl, ln4, le4, ⟨rfl, fun i e h => by simp at h⟩, (fun _ h => by cases h), B4, k4⟩ ?_ ?_
    · rintro i σ H5 hi ⟨v6, v7, L, rfl, ln, le, gr, ed, BB, kk⟩
      -- above
      refine ⟨_, rfl, _, rfl, b, L0, _, rfl, by omega, log_small (by omega) (by omega), BB, fun x1 H6 a1 c1 B6 k6 => ?_⟩
      refine ⟨_, rfl, _, rfl, b, L0, _, rfl, by omega, log_small (by omega) (by omega), B6, fun x2 H7 a2 c2 B7 k7 => ?_⟩
      refine ⟨_, rfl, _, _, rfl, rfl, _, rfl, _, _, rfl, rfl, _, rfl, b, L0, 3, rfl, by decide, by decide +kernel, B7, fun x5 H8 a5 c5 B8 k8 => ?_⟩
      refine ⟨_, _, rfl, rfl, _, _, rfl, (by show 5 ≤ sizeLine; decide), fun q nq => ?_⟩
      have k58 := k6.trans (k7.trans k8)
      have ia : ∃ an : Nat, an ≤ i ∧ atI [V.int x1, .int x2, .int (1 + (i : Int) - 1), .int 0, .int (if (0 : Int) < 1 + (i : Int) - 1 - x5 then 1 + (i : Int) - 1 - x5 else 0)] form = some (.int (an : Int)) := by
        rcases (by omega : form = 0 ∨ form = 1 ∨ form = 2 ∨ form = 3 ∨ form = 4) with rfl | rfl | rfl | rfl | rfl
        · exact ⟨x1.toNat, by omega, by rw [show ((x1.toNat : Nat) : Int) = x1 from by omega]; rfl⟩
        · exact ⟨x2.toNat, by omega, by rw [show ((x2.toNat : Nat) : Int) = x2 from by omega]; rfl⟩
        · exact ⟨i, Nat.le_refl _, by rw [show (1 + (i : Int) - 1) = i from by omega]; rfl⟩
        · exact ⟨0, Nat.zero_le _, rfl⟩
        · refine ⟨(if (0 : Int) < 1 + (i : Int) - 1 - x5 then 1 + (i : Int) - 1 - x5 else 0).toNat, ?_, ?_⟩
          · split <;> omega
          · rw [show (((if (0 : Int) < 1 + (i : Int) - 1 - x5 then 1 + (i : Int) - 1 - x5 else 0).toNat : Nat) : Int) = (if (0 : Int) < 1 + (i : Int) - 1 - x5 then 1 + (i : Int) - 1 - x5 else 0) from by split <;> omega]
            rfl
      obtain ⟨an, han, ia⟩ := ia
      refine ⟨_, rfl, q, _, _, _, rfl, rfl, SqL.of upd_same, ia, ?_⟩
      have ln := k58 _ _ q1 q2 ln
      have le := k58 _ _ e1 e2 le
      have ed : ∀ e ∈ L, EdAt H8 e := fun e he => (ed e he).kp BB k58
      have kk := kk.trans k58
      have s9 : Same H8 (upd H8 q (.lst [V.int x1, .int x2, .int (1 + (i : Int) - 1), .int 0, .int (if (0 : Int) < 1 + (i : Int) - 1 - x5 then 1 + (i : Int) - 1 - x5 else 0)])) := same_upd (Same.refl _) nq
      have ln := s9 _ _ ln
      have le := s9 _ _ le
      have ed : ∀ e ∈ L, EdAt (upd H8 q (.lst [V.int x1, .int x2, .int (1 + (i : Int) - 1), .int 0, .int (if (0 : Int) < 1 + (i : Int) - 1 - x5 then 1 + (i : Int) - 1 - x5 else 0)])) e := fun e he => (ed e he).same s9
      have B9 := B8.same s9
      have kk : Kp b L0 H (upd H8 q (.lst [V.int x1, .int x2, .int (1 + (i : Int) - 1), .int 0, .int (if (0 : Int) < 1 + (i : Int) - 1 - x5 then 1 + (i : Int) - 1 - x5 else 0)])) := kk.trans fun a o _ _ e => s9 a o e
      generalize upd H8 q (.lst [V.int x1, .int x2, .int (1 + (i : Int) - 1), .int 0, .int (if (0 : Int) < 1 + (i : Int) - 1 - x5 then 1 + (i : Int) - 1 - x5 else 0)]) = H9 at ln le ed B9 kk ⊢
      clear s9 nq B8 B7 B6 k6 k7 k8 k58 BB ia
      try dsimp only [tNext]
      -- edges.append(..)
      have ik : atI (nmV ns) (1 + (i : Int)) = some (V.str (sL (ns.getD (i + 1) []))) := by
        rw [show (1 + (i : Int)) = ((i + 1 : Nat) : Int) from by omega]
        exact atI_nat (nm_at (by omega))
      have ja : atI (nmV ns) (an : Int) = some (V.str (sL (ns.getD an []))) := atI_nat (nm_at (by omega))
      refine ⟨_, rfl, .inl ⟨rfl, _, SqL.of le⟩, ?_⟩
      refine ⟨_, rfl, _, rfl, pn, _, _, _, rfl, rfl, SqL.of ln, ik, _, rfl, _, rfl, pn, _, _, _, rfl, rfl, SqL.of ln, ja, (by show 2 ≤ sizeLine; decide), fun t1 n1 => ?_⟩
      have s1 : Same H9 (upd H9 t1 (.tup [.str (sL (ns.getD (i + 1) [])), .str (sL (ns.getD an []))])) := same_upd (Same.refl _) n1
      have l1 : (upd H9 t1 (.tup [.str (sL (ns.getD (i + 1) [])), .str (sL (ns.getD an []))])) t1 = some (.tup [.str (sL (ns.getD (i + 1) [])), .str (sL (ns.getD an []))]) := upd_same
      generalize upd H9 t1 (.tup [.str (sL (ns.getD (i + 1) [])), .str (sL (ns.getD an []))]) = G1 at s1 l1 ⊢
      have lnA := s1 _ _ ln
      refine ⟨_, rfl, _, rfl, pn, _, _, _, rfl, rfl, SqL.of lnA, ja, _, rfl, _, rfl, pn, _, _, _, rfl, rfl, SqL.of lnA, ik, (by show 2 ≤ sizeLine; decide), fun t2 n2 => ?_⟩
      have s2 : Same G1 (upd G1 t2 (.tup [.str (sL (ns.getD an [])), .str (sL (ns.getD (i + 1) []))])) := same_upd (Same.refl _) n2
      have l2 : (upd G1 t2 (.tup [.str (sL (ns.getD an [])), .str (sL (ns.getD (i + 1) []))])) t2 = some (.tup [.str (sL (ns.getD an [])), .str (sL (ns.getD (i + 1) []))]) := upd_same
      have l1 := s2 _ _ l1
      generalize upd G1 t2 (.tup [.str (sL (ns.getD an [])), .str (sL (ns.getD (i + 1) []))]) = G2 at s2 l1 l2 ⊢
      refine ⟨(by show 2 ≤ sizeLine; decide), fun q nq => ?_⟩
      have s3 : Same G2 (upd G2 q (.lst [.ref t1, .ref t2])) := same_upd (Same.refl _) nq
      have lq : (upd G2 q (.lst [.ref t1, .ref t2])) q = some (.lst [.ref t1, .ref t2]) := upd_same
      have l1 := s3 _ _ l1
      have l2 := s3 _ _ l2
      have S := s1.trans (s2.trans s3)
      have B10 := B9.same S
      obtain ⟨y1, y2⟩ := (B9.same (s1.trans s2)).apart nq
      have ln := S _ _ ln
      have le := S _ _ le
      have ed : ∀ e ∈ L, EdAt (upd G2 q (.lst [.ref t1, .ref t2])) e := fun e he => (ed e he).same S
      have kk : Kp b L0 H (upd G2 q (.lst [.ref t1, .ref t2])) := kk.trans fun a o _ _ e => S a o e
      generalize upd G2 q (.lst [.ref t1, .ref t2]) = G3 at lq l1 l2 ln le ed B10 kk ⊢
      refine ⟨_, rfl, b, L0, 2, rfl, by decide, by decide +kernel, B10, fun x G4 xa xc B11 k11 => ?_⟩
      have l1 : EdAt G4 (t1, (ns.getD (i + 1) [], ns.getD an [])) := EdAt.kp (e := (t1, (ns.getD (i + 1) [], ns.getD an []))) l1 B10 k11
      have l2 : EdAt G4 (t2, (ns.getD an [], ns.getD (i + 1) [])) := EdAt.kp (e := (t2, (ns.getD an [], ns.getD (i + 1) []))) l2 B10 k11
      have lq := k11 _ _ y1 y2 lq
      have ln := k11 _ _ q1 q2 ln
      have le := k11 _ _ e1 e2 le
      have ed : ∀ e ∈ L, EdAt G4 e := fun e he => (ed e he).kp B10 k11
      have kk := kk.trans k11
      have ch : ∃ e : Ed, atI [V.ref t1, .ref t2] x = some (edV e) ∧ EdAt G4 e ∧ (e.2 = (ns.getD (i + 1) [], ns.getD an []) ∨ e.2 = (ns.getD an [], ns.getD (i + 1) [])) := by
        rcases (by omega : x = 0 ∨ x = 1) with rfl | rfl
        · exact ⟨_, rfl, l1, .inl rfl⟩
        · exact ⟨_, rfl, l2, .inr rfl⟩
      obtain ⟨e, ie, ee, hd⟩ := ch
      refine ⟨q, _, _, _, rfl, rfl, SqL.of lq, ie, ?_⟩
      refine ⟨pe, _, _, rfl, rfl, le, small1000 (by rw [List.length_map, gr.len]; omega), ?_⟩
      refine ⟨_, _, L ++ [e], rfl, ?_, ?_, gr.snoc han hd, fun d hd => ?_, B11.put e1 e2, Kp.new kk he0⟩
      · rw [upd_ne npp]
        exact ln
      · rw [upd_same, List.map_append]
        rfl
      · rcases List.mem_append.mp hd with h | h
        · exact (ed d h).lst le
        · simp at h
          subst h
          exact ee.lst le
    · rintro σ H5 ⟨v6, v7, L, rfl, ln, le, gr, ed, BB, kk⟩
      have gl : L.length = dn := gr.len.trans (by omega)
      refine ⟨_, rfl, _, rfl, b, L0, pn, _, rfl, BB, .inl (SqL.of ln), (by rw [nmV_len, nl]; omega), fun r1 ys1 H6 nr1 pm1 er1 B6 k6 => ⟨r1, ys1, rfl, .inl ⟨SqL.of er1, fun tp ntp => ?_⟩⟩⟩
      obtain ⟨ns1, rfl, pn1⟩ := perm_nm pm1
      have le6 := k6 _ _ e1 e2 le
      have ed6 : ∀ e ∈ L, EdAt H6 e := fun e he => (ed e he).kp BB k6
      have kk6 := kk.trans k6
      have s7 : Same H6 (upd H6 tp (.tup (nmV ns1))) := same_upd (Same.refl _) ntp
      have ltp : (upd H6 tp (.tup (nmV ns1))) tp = some (.tup (nmV ns1)) := upd_same
      have le7 := s7 _ _ le6
      have ed7 : ∀ e ∈ L, EdAt (upd H6 tp (.tup (nmV ns1))) e := fun e he => (ed6 e he).same s7
      have B7 := B6.same s7
      have kk7 : Kp b L0 H (upd H6 tp (.tup (nmV ns1))) := kk6.trans fun a o _ _ e => s7 a o e
      obtain ⟨t1, t2⟩ := B6.apart ntp
      generalize upd H6 tp (.tup (nmV ns1)) = H7 at ltp le7 ed7 B7 kk7 ⊢
      refine ⟨_, rfl, _, rfl, b, L0, pe, _, rfl, B7, .inl (SqL.of le7), (by rw [List.length_map, gl]; omega), fun r2 ys2 H8 nr2 pm2 er2 B8 k8 => ⟨r2, ys2, rfl, .inl ⟨SqL.of er2, fun te nte => ⟨(by show 2 ≤ sizeLine; decide), fun res nres => ?_⟩⟩⟩⟩
      obtain ⟨L1, rfl, pl1⟩ := perm_map pm2 L rfl
      have s9 : Same H8 (upd H8 te (.tup (L1.map edV))) := same_upd (Same.refl _) nte
      have s10 : Same (upd H8 te (.tup (L1.map edV))) (upd (upd H8 te (.tup (L1.map edV))) res (.tup [.ref tp, .ref te])) := same_upd (Same.refl _) nres
      have S := s9.trans s10
      have kF : Kp b L0 H (upd (upd H8 te (.tup (L1.map edV))) res (.tup [.ref tp, .ref te])) := (kk7.trans k8).trans fun a o _ _ e => S a o e
      have n8 : H8 res = none := s9.free nres
      obtain ⟨z1, z2⟩ := B8.apart n8
      have len1 : ns1.length = 1 + dn := pn1.length_eq.trans nl
      refine k res ns1 ns L1 L _ (Kp.free (kk7.trans k8) n8 z1 z2) ⟨⟨tp, te, upd_same, S _ _ (k8 _ _ t1 t2 ltp), s10 _ _ upd_same⟩, ?_, by omega, by omega, pn1, pl1, ?_, fun e he => ?_⟩ (B8.same S) kF
      · rw [len1]
        exact hns.perm pn1
      · rw [len1]
        have : 1 + dn - 1 = ((1 : Int) + dn - 1).toNat := by omega
        rw [this]
        exact gr
      · exact ((ed7 e (pl1.mem_iff.mp he)).kp B7 k8).same S
end

end Tg

namespace Tg
open PySem PySem.Spec PyProof.Rows L2 Ow
abbrev v_CP (K : PySem.W.Frag) : Addr := He.ga K "Plan"
abbrev v_CN (K : PySem.W.Frag) : Addr := He.ga K "NoTree"
abbrev v_gN (K : PySem.W.Frag) : Addr := He.ma K (v_CN K) "__init__"
abbrev v_E1 (K : PySem.W.Frag) : Addr := He.ga K "NoGrove"
abbrev v_E2 (K : PySem.W.Frag) : Addr := He.ga K "NoMatch"
abbrev v_E3 (K : PySem.W.Frag) : Addr := He.ga K "NoText"
abbrev v_E4 (K : PySem.W.Frag) : Addr := He.ga K "NoWeb"
abbrev v_C (K : PySem.W.Frag) : Addr := He.ga K "Tree"
abbrev v_f1 (K : PySem.W.Frag) : Addr := He.ma K (v_C K) "__init__"
abbrev v_p2 (K : PySem.W.Frag) : Addr := He.ma K (v_C K) "places"
abbrev v_f2 (K : PySem.W.Frag) : Addr := Hh.rec1 K (v_p2 K) "property"
abbrev v_rs2 (K : PySem.W.Frag) : List Value := Hh.recRest K (v_p2 K) "property"
abbrev v_p3 (K : PySem.W.Frag) : Addr := He.ma K (v_C K) "edges"
abbrev v_f3 (K : PySem.W.Frag) : Addr := Hh.rec1 K (v_p3 K) "property"
abbrev v_rs3 (K : PySem.W.Frag) : List Value := Hh.recRest K (v_p3 K) "property"
abbrev v_f4 (K : PySem.W.Frag) : Addr := He.ma K (v_C K) "__len__"
abbrev v_p5 (K : PySem.W.Frag) : Addr := He.ma K (v_C K) "is_name"
abbrev v_f5 (K : PySem.W.Frag) : Addr := Hh.rec1 K (v_p5 K) "staticmethod"
abbrev v_rs5 (K : PySem.W.Frag) : List Value := Hh.recRest K (v_p5 K) "staticmethod"
abbrev v_f6 (K : PySem.W.Frag) : Addr := He.ga K "is_tuple_of_strings"
abbrev v_f7 (K : PySem.W.Frag) : Addr := He.ga K "check_form"
abbrev v_f8 (K : PySem.W.Frag) : Addr := He.ga K "check_places"
abbrev v_f9 (K : PySem.W.Frag) : Addr := He.ga K "mates_by_place"
abbrev v_f10 (K : PySem.W.Frag) : Addr := He.ga K "in_place_order"
abbrev v_f11 (K : PySem.W.Frag) : Addr := He.ga K "check_joined"
abbrev v_f12 (K : PySem.W.Frag) : Addr := He.ma K (v_CP K) "__init__"
abbrev v_f13 (K : PySem.W.Frag) : Addr := He.ga K "_law_box"
abbrev v_f14 (K : PySem.W.Frag) : Addr := He.ga K "_law_take"
abbrev v_f15 (K : PySem.W.Frag) : Addr := He.ga K "_law_mixed"
abbrev v_f16 (K : PySem.W.Frag) : Addr := He.ga K "_law_names"
abbrev v_f17 (K : PySem.W.Frag) : Addr := He.ga K "_law_tree"
abbrev v_f18 (K : PySem.W.Frag) : Addr := He.ga K "_law_changed"
abbrev v_f19 (K : PySem.W.Frag) : Addr := He.ga K "_law_size"
abbrev v_f20 (K : PySem.W.Frag) : Addr := He.ga K "_law_is_name"
abbrev v_f21 (K : PySem.W.Frag) : Addr := He.ga K "_law_has_form"
abbrev v_f22 (K : PySem.W.Frag) : Addr := He.ga K "_law_unlinked"
abbrev v_f23 (K : PySem.W.Frag) : Addr := He.ga K "_law_due"
abbrev v_f24 (K : PySem.W.Frag) : Addr := He.ga K "_law_told"
abbrev v_f25 (K : PySem.W.Frag) : Addr := He.ga K "_law_spaced"
abbrev v_f26 (K : PySem.W.Frag) : Addr := He.ga K "_law_bent"
abbrev v_f27 (K : PySem.W.Frag) : Addr := He.ga K "law"
def exL0 (K : PySem.W.Frag) : List Bool := [decide (PySem.W.nsIn K mainGlobals "Tree" = some (some (.ref (v_C K)))),
  decide (PySem.W.findIn K (.ref (v_C K)) "__init__" = some (some (.ref (v_f1 K)))),
  PySem.W.isFn K (.ref (v_f1 K)),
  decide (PySem.W.findIn K (.ref (v_C K)) "places" = some (some (.ref (v_p2 K)))),
  decide (PySem.W.specialIn K (.ref (v_p2 K)) "__get__" = some (some (.builtin "property.__get__"))),
  decide (PySem.W.takesIn K (.ref (v_p2 K)) = some true),
  Hh.recB K (v_p2 K) "property",
  decide (PySem.W.findIn K (.ref (v_C K)) "edges" = some (some (.ref (v_p3 K)))),
  decide (PySem.W.specialIn K (.ref (v_p3 K)) "__get__" = some (some (.builtin "property.__get__"))),
  decide (PySem.W.takesIn K (.ref (v_p3 K)) = some true),
  Hh.recB K (v_p3 K) "property",
  decide (PySem.W.findIn K (.ref (v_C K)) "__len__" = some (some (.ref (v_f4 K)))),
  PySem.W.isFn K (.ref (v_f4 K)),
  Hh.getB K (v_C K) "is_name" "staticmethod.__get__" (v_p5 K),
  decide (PySem.W.findIn K (.ref (v_C K)) "is_name" = some (some (.ref (v_p5 K)))),
  decide (PySem.W.typeIn K (.ref (v_p5 K)) = some (.type "staticmethod")),
  decide (PySem.W.specialIn K (.ref (v_p5 K)) "__get__" = some (some (.builtin "staticmethod.__get__"))),
  decide (PySem.W.takesIn K (.ref (v_p5 K)) = some false),
  Hh.recB K (v_p5 K) "staticmethod",
  decide (PySem.W.nsIn K mainGlobals "is_tuple_of_strings" = some (some (.ref (v_f6 K)))),
  decide (PySem.W.nsIn K mainGlobals "check_form" = some (some (.ref (v_f7 K)))),
  decide (PySem.W.nsIn K mainGlobals "check_places" = some (some (.ref (v_f8 K)))),
  decide (PySem.W.nsIn K mainGlobals "mates_by_place" = some (some (.ref (v_f9 K)))),
  decide (PySem.W.nsIn K mainGlobals "in_place_order" = some (some (.ref (v_f10 K)))),
  decide (PySem.W.nsIn K mainGlobals "check_joined" = some (some (.ref (v_f11 K)))),
  decide (PySem.W.findIn K (.ref (v_CP K)) "__init__" = some (some (.ref (v_f12 K)))),
  PySem.W.isFn K (.ref (v_f12 K)),
  decide (PySem.W.nsIn K mainGlobals "_law_box" = some (some (.ref (v_f13 K)))),
  decide (PySem.W.nsIn K mainGlobals "_law_take" = some (some (.ref (v_f14 K)))),
  decide (PySem.W.nsIn K mainGlobals "_law_mixed" = some (some (.ref (v_f15 K))))]
def exL1 (K : PySem.W.Frag) : List Bool := [decide (PySem.W.nsIn K mainGlobals "_law_names" = some (some (.ref (v_f16 K)))),
  decide (PySem.W.nsIn K mainGlobals "_law_tree" = some (some (.ref (v_f17 K)))),
  decide (PySem.W.nsIn K mainGlobals "_law_changed" = some (some (.ref (v_f18 K)))),
  decide (PySem.W.nsIn K mainGlobals "_law_size" = some (some (.ref (v_f19 K)))),
  decide (PySem.W.nsIn K mainGlobals "_law_is_name" = some (some (.ref (v_f20 K)))),
  decide (PySem.W.nsIn K mainGlobals "_law_has_form" = some (some (.ref (v_f21 K)))),
  decide (PySem.W.nsIn K mainGlobals "_law_unlinked" = some (some (.ref (v_f22 K)))),
  decide (PySem.W.nsIn K mainGlobals "_law_due" = some (some (.ref (v_f23 K)))),
  decide (PySem.W.nsIn K mainGlobals "_law_told" = some (some (.ref (v_f24 K)))),
  decide (PySem.W.nsIn K mainGlobals "_law_spaced" = some (some (.ref (v_f25 K)))),
  decide (PySem.W.nsIn K mainGlobals "_law_bent" = some (some (.ref (v_f26 K)))),
  decide (PySem.W.nsIn K mainGlobals "law" = some (some (.ref (v_f27 K)))),
  PySem.W.plainGet K (v_C K) Str.empty,
  PySem.W.hasDictIn K (v_C K),
  PySem.W.plainOver K (v_C K),
  decide (PySem.W.findIn K (.ref (v_C K)) "__setattr__" = some (some (.builtin "object.__setattr__"))),
  PySem.W.makesIn K (v_C K),
  PySem.W.keepIn K (.ref (v_C K)),
  decide (PySem.W.findIn K (.ref (v_C K)) "_places" = some none),
  decide (PySem.W.findIn K (.ref (v_C K)) "_edges" = some none),
  decide (PySem.W.findIn K (.ref (v_C K)) "_shape" = some none),
  decide (PySem.W.findIn K (.ref (v_C K)) "plan" = some none),
  PySem.W.plainGet K (v_CP K) Str.empty,
  PySem.W.hasDictIn K (v_CP K),
  PySem.W.plainOver K (v_CP K),
  decide (PySem.W.findIn K (.ref (v_CP K)) "__setattr__" = some (some (.builtin "object.__setattr__"))),
  PySem.W.makesIn K (v_CP K),
  PySem.W.keepIn K (.ref (v_CP K)),
  decide (PySem.W.nsIn K mainGlobals "Plan" = some (some (.ref (v_CP K)))),
  decide (PySem.W.findIn K (.ref (v_CP K)) "near" = some none)]
def exL2 (K : PySem.W.Frag) : List Bool := [decide (PySem.W.findIn K (.ref (v_CP K)) "spots" = some none),
  decide (PySem.W.findIn K (.ref (v_CP K)) "names" = some none),
  decide (PySem.W.findIn K (.ref (v_CP K)) "above" = some none),
  decide (PySem.W.findIn K (.ref (v_CP K)) "deep" = some none),
  PySem.W.readsIn K (v_C K) (.type "type"),
  decide (PySem.W.specialIn K (.ref (v_C K)) "__getattribute__" = some (some (.builtin "type.__getattribute__"))),
  Hh.intAt K "LONGEST_NAME" 6,
  Hh.intAt K "MOST_PLACES" 40,
  decide (PySem.W.nsIn K mainGlobals "NoTree" = some (some (.ref (v_CN K)))),
  decide (PySem.W.nsIn K mainGlobals "NoGrove" = some (some (.ref (v_E1 K)))),
  decide (PySem.W.nsIn K mainGlobals "NoMatch" = some (some (.ref (v_E2 K)))),
  decide (PySem.W.nsIn K mainGlobals "NoText" = some (some (.ref (v_E3 K)))),
  decide (PySem.W.nsIn K mainGlobals "NoWeb" = some (some (.ref (v_E4 K)))),
  PySem.W.keepIn K (.ref (v_CN K)),
  Hh.excB K (v_CN K),
  decide (PySem.W.findIn K (.ref (v_CN K)) "__setattr__" = some (some (.builtin "object.__setattr__"))),
  decide (PySem.W.subIn K (.ref (v_CN K)) (.type "BaseException") = some true),
  decide (PySem.W.typeIn K (.ref (v_CN K)) = some (.type "type")),
  decide (PySem.W.findIn K (.ref (v_CN K)) "__getattribute__" = some (some (.builtin "BaseException.__getattribute__"))),
  decide (PySem.W.findIn K (.ref (v_CN K)) "__getattr__" = some none),
  PySem.W.hasDictIn K (v_CN K),
  decide (PySem.W.findIn K (.ref (v_CN K)) "__class__" = some (some (.builtin "object.__class__"))),
  decide (PySem.W.mroIn K (v_CN K) (.type "object") = some true),
  decide (PySem.W.findIn K (.ref (v_CN K)) "word" = some none),
  decide (PySem.W.findIn K (.ref (v_CN K)) "at" = some none),
  decide (PySem.W.findIn K (.ref (v_CN K)) "__init__" = some (some (.ref (v_gN K)))),
  decide (PySem.W.typeIn K (.ref (v_gN K)) = some (.type "function")),
  decide (PySem.W.specialIn K (.builtin "object.__class__") "__get__" = some (some (.builtin "getset_descriptor.__get__"))),
  decide (PySem.W.takesIn K (.builtin "object.__class__") = some true),
  decide (PySem.W.subIn K (.ref (v_CN K)) (.ref (v_CN K)) = some true)]
def exL3 (K : PySem.W.Frag) : List Bool := [decide (PySem.W.kitAny K (.ref (v_CN K)) [.ref (v_E1 K), .ref (v_E2 K), .ref (v_E3 K), .ref (v_E4 K)] = some false),
  decide (PySem.W.nsIn K mainGlobals "isinstance" = some none),
  decide (PySem.W.nsIn K mainGlobals "tuple" = some none),
  decide (PySem.W.nsIn K mainGlobals "str" = some none),
  decide (PySem.W.nsIn K mainGlobals "int" = some none),
  decide (PySem.W.nsIn K mainGlobals "bool" = some none),
  decide (PySem.W.nsIn K mainGlobals "len" = some none),
  decide (PySem.W.nsIn K mainGlobals "all" = some none),
  decide (PySem.W.nsIn K mainGlobals "enumerate" = some none),
  decide (PySem.W.nsIn K mainGlobals "list" = some none),
  decide (PySem.W.nsIn K mainGlobals "range" = some none),
  decide (PySem.W.nsIn K mainGlobals "abs" = some none),
  decide (PySem.W.nsIn K mainGlobals "min" = some none),
  decide (PySem.W.nsIn K mainGlobals "max" = some none),
  decide (PySem.W.nsIn K mainGlobals "set" = some none),
  decide (PySem.W.nsIn K mainGlobals "repr" = some none)]
def exK (K : PySem.W.Frag) : Bool := (exL0 K).all id && (exL1 K).all id && (exL2 K).all id && (exL3 K).all id
def dfs : List Hh.Df := [⟨v_f1, "__init__", "Tree.__init__", inClass (top 23) 0⟩,
  ⟨v_f2, "places", "Tree.places", inClass (top 23) 4⟩,
  ⟨v_f3, "edges", "Tree.edges", inClass (top 23) 5⟩,
  ⟨v_f4, "__len__", "Tree.__len__", inClass (top 23) 17⟩,
  ⟨v_f5, "is_name", "Tree.is_name", inClass (top 23) 1⟩,
  ⟨v_f6, "is_tuple_of_strings", "is_tuple_of_strings", top 17⟩,
  ⟨v_f7, "check_form", "check_form", top 18⟩,
  ⟨v_f8, "check_places", "check_places", top 19⟩,
  ⟨v_f9, "mates_by_place", "mates_by_place", top 20⟩,
  ⟨v_f10, "in_place_order", "in_place_order", top 21⟩,
  ⟨v_f11, "check_joined", "check_joined", top 22⟩,
  ⟨v_f12, "__init__", "Plan.__init__", inClass (top 13) 0⟩,
  ⟨v_f13, "_law_box", "_law_box", top 25⟩,
  ⟨v_f14, "_law_take", "_law_take", top 26⟩,
  ⟨v_f15, "_law_mixed", "_law_mixed", top 27⟩,
  ⟨v_f16, "_law_names", "_law_names", top 28⟩,
  ⟨v_f17, "_law_tree", "_law_tree", top 29⟩,
  ⟨v_f18, "_law_changed", "_law_changed", top 30⟩,
  ⟨v_f19, "_law_size", "_law_size", top 31⟩,
  ⟨v_f20, "_law_is_name", "_law_is_name", top 32⟩,
  ⟨v_f21, "_law_has_form", "_law_has_form", top 33⟩,
  ⟨v_f22, "_law_unlinked", "_law_unlinked", top 34⟩,
  ⟨v_f23, "_law_due", "_law_due", top 35⟩,
  ⟨v_f24, "_law_told", "_law_told", top 36⟩,
  ⟨v_f25, "_law_spaced", "_law_spaced", top 37⟩,
  ⟨v_f26, "_law_bent", "_law_bent", top 38⟩,
  ⟨v_f27, "law", "law", top 39⟩,
  ⟨v_gN, "__init__", "NoTree.__init__", inClass (top 5) 0⟩]
def names0 : List PySem.Str := ["_wall", "TowError", "BuildError", "UseError", "NoTree", "NoGrove", "NoWeb", "NoText", "NoMatch", "NoPlace", "lowest", "Plan", "LONGEST_NAME", "MOST_PLACES", "is_tuple_of_strings", "check_form", "check_places", "mates_by_place", "in_place_order", "check_joined", "Tree", "_law_box", "_law_take", "_law_mixed", "_law_names", "_law_tree", "_law_changed", "_law_size", "_law_is_name", "_law_has_form"]
def names1 : List PySem.Str := ["_law_unlinked", "_law_due", "_law_told", "_law_spaced", "_law_bent"]
def names : List PySem.Str := names0 ++ names1
abbrev RR : PySem.W.OpenRow := PySem.W.OpenLaw.row PySem.Challenge.rw_towgrove_k04_values_that_are_trees
def adrs : List Addr := List.range 1000
abbrev hk : PySem.W.Hook := Hh.hook adrs exK dfs
theorem run (w : World) : HandSHeadRun.RunEq RR (PySem.W.view RR.prog [39]) hk (Hh.ob adrs exK dfs) 9000 names w := by
  intro os
  kernel_rfl
end Tg

/-! x in t, x not in t: t a tuple of data of any depth; pairs of texts in a tuple of such pairs -/
namespace Ow
open PySem PySem.Spec PyProof.Rows L2
section
variable {X : Cx}
def rInT (K : PySem.W.Frag) (neg : Bool) : R2 := fun x y H Q => ∃ d ds, Dp K H x d ∧ Dp K H y (.tuple ds) ∧ SeqAt.shaped d = true ∧ SeqAt.shaped (.tuple ds) = true ∧ Q (.bl (if neg then !(ds.any fun z => PyData.eqv z d) else ds.any fun z => PyData.eqv z d)) H
theorem op_inT (hu : X.A.units + 65 < cLine) : OpR X (compareOp .In) (rInT X.K false) := by
  intro pins s σ H x y v u Q I rx ry h
  obtain ⟨d, ds, hd, he, sd, se, q⟩ := h
  obtain ⟨as, a1⟩ := Dp.reads I d x v hd rx
  obtain ⟨bs, b1⟩ := Dp.reads I (.tuple ds) y u he ry
  exact SeqAt.in_tuple_reads b1 a1 (SeqAt.canLay_of_shaped se) (SeqAt.canLay_of_shaped sd) (room_in_shaped sd hu) ⟨.bl _, H, I, rfl, q⟩
theorem op_notInT (hu : X.A.units + 65 < cLine) : OpR X (compareOp .NotIn) (rInT X.K true) := by
  intro pins s σ H x y v u Q I rx ry h
  obtain ⟨d, ds, hd, he, sd, se, q⟩ := h
  obtain ⟨as, a1⟩ := Dp.reads I d x v hd rx
  obtain ⟨bs, b1⟩ := Dp.reads I (.tuple ds) y u he ry
  exact SeqAt.notIn_tuple_reads b1 a1 (SeqAt.canLay_of_shaped se) (SeqAt.canLay_of_shaped sd) (room_in_shaped sd hu) ⟨.bl _, H, I, rfl, q⟩
theorem op_inTK (K : PySem.W.Frag) (hu : X.A.units + 65 < cLine) (hK : X.K = K := by rfl) : OpR X (compareOp .In) (rInT K false) := by
  rw [← hK]
  exact op_inT hu
/-- pairs of texts -/
def pD (p : Str × Str) : PyData := .tuple [.str p.1, .str p.2]
theorem pD_eqv (p q : Str × Str) : PyData.eqv (pD p) (pD q) = decide (p = q) := by
  obtain ⟨a, b⟩ := p
  obtain ⟨c, d⟩ := q
  simp only [pD, PyData.eqv, PyData.eqvAll]
  by_cases h1 : a = c <;> by_cases h2 : b = d <;> simp [h1, h2]
theorem pD_shaped {p : Str × Str} (h1 : PyData.strOk p.1 = true) (h2 : PyData.strOk p.2 = true) : SeqAt.shaped (pD p) = true := by simp [SeqAt.shaped, pD, PyData.canLay0, PyData.canLayAll0, PyData.depth, PyData.depthAll, h1, h2]
theorem pDs_shaped {es : List (Str × Str)} (h : ∀ p ∈ es, PyData.strOk p.1 = true ∧ PyData.strOk p.2 = true) : SeqAt.shaped (.tuple (es.map pD)) = true := by
  have z : PyData.canLayAll0 (es.map pD) = true ∧ PyData.depthAll (es.map pD) ≤ 1 := by
    induction es with
    | nil => exact ⟨rfl, by decide⟩
    | cons e es ih =>
      obtain ⟨z1, z2⟩ := ih fun p hp => h p (List.mem_cons_of_mem _ hp)
      obtain ⟨y1, y2⟩ := h e List.mem_cons_self
      refine ⟨?_, ?_⟩
      · simp [PyData.canLayAll0, z1, pD, PyData.canLay0, y1, y2]
      · simp [PyData.depthAll, pD, PyData.depth]
        omega
  have d : PyData.depthAll (es.map pD) + 1 ≤ 64 := by omega
  simp [SeqAt.shaped, PyData.canLay0, PyData.depth, z.1, d]
theorem pD_any (es : List (Str × Str)) (q : Str × Str) : ((es.map pD).any fun z => PyData.eqv z (pD q)) = decide (q ∈ es) := by
  induction es with
  | nil => rfl
  | cons e es ih =>
    simp only [List.map_cons, List.any_cons, ih, pD_eqv]
    by_cases h : e = q
    · subst h
      simp
    · have h2 : ¬ q = e := fun z => h z.symm
      simp [h, h2]
end
end Ow

/-! enumerate(xs) for a tuple, and for what is a list or a tuple -/
namespace Ow
open PySem PySem.Spec PyProof.Rows L2
set_option maxHeartbeats 1000000 in
theorem meets_en1 {v : Value} {o : Obj} {H : Heap → Prop} (B : Begins v o H) :
    Meets (Builtin.«enumerate.__new__» ⟨[.type "enumerate", v], []⟩)
      (fun _ R s => H s.heap ∧
        R (.ok (.ret (.ref (s.heap.push o).objs.size)))
          { s with heap := (s.heap.push o).push { cls := .type "enumerate", data := .fields #[.none, .bool false, .ref s.heap.objs.size, rawInt 0, .none, .none] } }) :=
  .of_wp fun prog w A R s ⟨hH, hR⟩ => by
    obtain ⟨hp, gg, dd, kk, oo⟩ := s
    have su := sub_enumerate
    have go : ∀ {A1 : Around} {E1 Q1 : Value → Shared → Prop}, Q1 (.ref hp.objs.size) ⟨hp.push o, gg, dd, kk, oo⟩ → wpAny (model prog w) A1 (pyIter v) Q1 E1 ⟨hp, gg, dd, kk, oo⟩ :=
      fun q => B.iter prog w _ _ ⟨hp, gg, dd, kk, oo⟩ _ hH q
    wp_walk using go
    refine wpAny_stack_any fun st => wpAny_pure ?_
    split
    · rename_i c _ _ _ _ _
      cases (c == Value.type "enumerate") <;> (wp_walk using go; exact ⟨_, rfl, hR⟩)
    · (wp_walk using go; exact ⟨_, rfl, hR⟩)
section
variable {prog : Program} {w : World} {A : Around} {E : Value → Shared → Prop} {s : Shared}
/-- the call enumerate(v): two new cells -/
theorem call_en1 {v : Value} {o : Obj} {H : Heap → Prop} {Q : Value → Shared → Prop} (B : Begins v o H) (hH : H s.heap)
    (q : ∀ g, IsEnum g (s.heap.objs.size + 1) s.heap.objs.size 0 .none → g.get? s.heap.objs.size = some o → g.objs.size = s.heap.objs.size + 2 →
      (∀ b z, s.heap.get? b = some z → g.get? b = some z) → Q (.ref (s.heap.objs.size + 1)) { s with heap := g }) :
    wpAny (model prog w) A (call (.type "enumerate") [v]) Q E s := by
  refine callType_new F.called_enumerate (by decide) (F.typeCall_enumerate_1 _) (F.newCall_enumerate_1 _)
    (fun ob => F.args_object_init_2 ob _) F.entry_enumerate_new (meets_en1 B) ⟨hH, ?_⟩
  have z1 : (s.heap.push o).objs.size = s.heap.objs.size + 1 := Heap.size_push ..
  show _ ∧ _
  rw [z1]
  have en : IsEnum ((s.heap.push o).push { cls := .type "enumerate", data := .fields #[.none, .bool false, .ref s.heap.objs.size, rawInt 0, .none, .none] })
      (s.heap.objs.size + 1) s.heap.objs.size 0 .none := by
    have y := Heap.get?_push_size (s.heap.push o) (o := { cls := .type "enumerate", data := .fields #[.none, .bool false, .ref s.heap.objs.size, rawInt 0, .none, .none] }) rfl
    rw [z1] at y
    exact y
  exact ⟨⟨_, en, rfl⟩, q _ en (Heap.get?_push_of_some _ (Heap.get?_push_size _ B.free)) (by rw [Heap.size_push, z1]) fun b z hb => Heap.get?_push_of_some _ (Heap.get?_push_of_some _ hb)⟩
end
/-- the tuple at a, its items by their places, each time in a new pair -/
def Itet (K : PySem.W.Frag) (a : Addr) : It :=
  ⟨fun i H => ∃ (l : List V) (y : V), SqT K H a l ∧ l[i]? = some y,
   fun i H v G => ∃ c y, v = .ref c ∧ H c = none ∧ G = upd H c (.tup [.int (i : Nat), y]) ∧ ∀ l, SqT K H a l → l[i]? = some y,
   fun i H => ∃ l : List V, SqT K H a l ∧ l.length ≤ i⟩
theorem turn_enT {P : Program} {w : World} {K : PySem.W.Frag} {elts : List Expr} {kk : Nat} {tpos : Pos} (a e it : Addr) :
    Turn P w K (.Tuple elts kk tpos) (Itet K a) [e, it] e (fun i h => (∃ old, IsEnum h e it ((i : Nat) : Int) old) ∧ h.IsTupleIter it a i ∧ e ≠ it) where
  mem := by simp
  obj := fun i h st b hb => by
    obtain ⟨⟨old, he⟩, ⟨o, ho, _, hd⟩, _⟩ := st
    rcases (by simpa using hb : b = e ∨ b = it) with rfl | rfl
    · exact ⟨_, he, fun v q => nomatch q⟩
    · exact ⟨o, ho, fun v q => by rw [hd] at q; cases q⟩
  keep := fun i h g st k => let ⟨⟨old, he⟩, hi, ne⟩ := st; ⟨⟨old, k e (by simp) _ he⟩, hi.at fun o q => k it (by simp) o q, ne⟩
  item := by
    intro X hP hw hK hc i pins s σ H E I hf st hg
    subst hP hw hK
    obtain ⟨⟨old, he⟩, hit, ne⟩ := st
    obtain ⟨l, y, hq, hy⟩ := hg
    obtain ⟨its, rv, p, hz⟩ := I.tuple hq
    obtain ⟨u, hu, ru⟩ := rv.get hy
    have pt : s.heap.IsTuple a its.toArray := p
    have ll := rv.length
    have e_lt : e < s.heap.objs.size := Heap.lt_size he
    have i_lt : it < s.heap.objs.size := by
      obtain ⟨_, q, _⟩ := hit
      exact Heap.lt_size q
    have ai : a ≠ it := fun z => by
      obtain ⟨o1, h1, c1, _⟩ := hit
      obtain ⟨o2, h2, c2, _⟩ := pt
      rw [z, h1] at h2
      cases h2
      rw [c1] at c2
      exact absurd c2 (by decide)
    have ae : e ∉ [it, a] := by
      intro hm
      rcases (by simpa using hm : e = it ∨ e = a) with z | z
      · exact ne z
      · subst z
        obtain ⟨o2, h2, c2, _⟩ := pt
        rw [he] at h2
        cases h2
        have c3 : Value.type "enumerate" = Value.type "tuple" := c2
        injection c3 with c4
        exact absurd c4 (by decide)
    have i_lt2 : i < its.toArray.size := by
      have h1 : i < l.length := (List.getElem?_eq_some_iff.mp hy).1
      simp
      omega
    refine wpAny_pyNext_enum_itemD (Draws.tuple (prog := X.prog) (w := X.w) (A := X.A.in1) (show X.A.in1.handled = none from I.ok.hd hc) it a ai its.toArray) he ⟨hit, pt⟩ i_lt2 ne ae fun x g tk hP ho hst hT hsz hk => ?_
    have ex : x = u := by
      have h2 : its.toArray[i]? = some u := by simpa using hu
      rw [h2] at hP
      exact (Option.some.inj hP).symm
    subst ex
    refine ⟨_, rfl, wpAny_letOwnedTupleGo_enum (s := { s with heap := g, toks := tk + 1 }) ho fun g2 he2 sb => ?_⟩
    have hT2 : g2.get? s.heap.objs.size = some { cls := .type "tuple", data := .seq #[.int i tk, x] } := (sb.2 _ (Nat.ne_of_gt e_lt)).trans hT
    have nw : ObjOk X.prog X.w (upd H s.heap.objs.size (.tup [.int (i : Nat), y])) g2 s.heap.objs.size (.tup [.int (i : Nat), y]) :=
      ⟨by show 2 ≤ sizeLine; decide, [.int i tk, x], .cons ⟨_, rfl⟩ (.cons ru .nil), ⟨_, hT2, rfl, _, rfl⟩⟩
    have J : Inv X pins σ (upd H s.heap.objs.size (.tup [.int (i : Nat), y])) { s with heap := g2, toks := tk + 1 } :=
      I.turnedNew (ch := [e, it]) (fun b ob hb q => (sb.2 b (fun z => hb (by simp [z]))).trans (hk b ob (fun z => hb (by simp [z])) (fun z => hb (by simp [z])) q)) hf (Nat.le_refl _) nw
    refine ⟨.ref s.heap.objs.size, _, J, rfl, ⟨_, y, rfl, I.hok.fresh (Nat.le_refl _), rfl, fun m hm => by rw [I.tuple_inj hm hq]; exact hy⟩, ⟨⟨x, ?_⟩, hst.1.at fun o q => (sb.2 it (Ne.symm ne)).trans q, ne⟩, fun b hb => ?_⟩
    · rw [show ((i + 1 : Nat) : Int) = (i : Int) + 1 from by omega]
      exact he2
    · have b_lt : b < s.heap.objs.size := by
        rcases (by simpa using hb : b = e ∨ b = it) with z | z
        · rw [z]; exact e_lt
        · rw [z]; exact i_lt
      rw [upd_ne (Nat.ne_of_lt b_lt)]
      exact (hf b hb).1
  done := by
    intro X hP hw hK hc i pins s σ H E I hf st hg
    subst hP hw hK
    obtain ⟨⟨old, he⟩, hit, ne⟩ := st
    obtain ⟨l, hq, hl⟩ := hg
    obtain ⟨its, rv, p, hz⟩ := I.tuple hq
    have pt : s.heap.IsTuple a its.toArray := p
    obtain ⟨f0, f1, f2, f3, f4, f5⟩ := hf it (by simp)
    have ll := rv.length
    have hx : its.toArray[i]? = none := by simp; omega
    have hT : s.TypeIs (.ref e) "enumerate" := ⟨_, he, rfl⟩
    unfold pyNext
    refine wpAny_bind (wpAny_attempt (wpAny_callSpecial?_slot (name := Str.ofString "__next__") hT F.slot_enumerate_next
      (wpAny_call_entry F.slot_enumerate_next hT F.entry_enumerate_next ?_ (F.args_enumerate_next_1 _))))
    show wpAny _ _ (field (.ref e) 2 >>= _) _ _ _
    refine wpAny_bind (wpAny_field he rfl (x := .ref it) rfl ?_)
    refine wpAny_bind (wpAny_nextOf_tuple_end (I.ok.hd hc) hit pt hx fun g x eb hx' => ?_)
    obtain ⟨o, ho, hcl⟩ := hx'
    refine wpAny_bind (wpAny_isInstance (T := "StopIteration") (b := true) ⟨o, ho, hcl⟩ isSubtype_stop ?_)
    exact wpAny_pure ⟨rfl, I.turned (t' := s.toks) (fun b o hb q => eb b o hb q) f0 f1 f3 f4 f5⟩
  self := fun A i s Q E st h => let ⟨⟨_, he⟩, _⟩ := st; wpAny_pyIter_enum he h
theorem walk_enT {K : PySem.W.Frag} {a : Addr} {xs : List V} : Walk (Itet K a) xs.length (fun H => SqT K H a xs) (YPair (fun i => some (.int (i : Nat))) (fun i => xs[i]?)) := by
  refine ⟨fun i _ hi q => ⟨xs, xs[i], q, by simp [hi]⟩, fun _ q => ⟨xs, q, Nat.le_refl _⟩, fun i H v G _ q y => ?_⟩
  obtain ⟨c, x, h1, h2, h3, h4⟩ := y
  exact ⟨c, .int (i : Nat), x, h1, h2, h3, rfl, h4 xs q⟩
def iEnA (K : PySem.W.Frag) (ta : TA) : TI := fun σ H R => ta σ H fun vs G => ∃ a l, vs = [.ref a] ∧ ((SqL K G a l ∧ R (Ite K a) G) ∨ (SqT K G a l ∧ R (Itet K a) G))
theorem pi_enA {X : Cx} {e : Expr} {ta : TA} {p pos tpos : Pos} {elts : List Expr} {kk : Nat} (hg : Gl X "enumerate") (hm : X.mg "enumerate" = none) (ha : PA X [e] ta) (hs : starEach [e] X.env = [(false, eval e X.env)] := by rfl) :
    PI X (.Tuple elts kk tpos) (.Call (.Name "enumerate" p) [e] [] pos) (iEnA X.K ta) := by
  refine ⟨fun pins s σ H R I h => ?_⟩
  refine Call_ (ld_blt I hg hm boot_enumerate (PyProof.Rows.callWith_type1 (thn (ha.run pos pins s σ H _ I h) fun us s1 ⟨vs, G, J, r1, q1⟩ => ?_) hs rfl))
  obtain ⟨a, l, ex, q1⟩ := q1
  subst ex
  cases r1 with
  | cons r rr =>
    cases rr
    cases r
    have fin : ∀ (g : Heap) (JJ : Inv X pins σ G { s1 with heap := g }), ∀ b ∈ [s1.heap.objs.size + 1, s1.heap.objs.size], s1.heap.objs.size ≤ b := by
      intro g JJ b hb
      rcases (by simpa using hb : b = s1.heap.objs.size + 1 ∨ b = s1.heap.objs.size) with z | z <;> omega
    rcases q1 with ⟨hq, q⟩ | ⟨hq, q⟩
    · obtain ⟨its, rv, p', hz⟩ := J.list hq
      refine call_enumerate_list p'.isList fun g he hit hsz hk => wpAny_pyIter_enum he ?_
      have J2 : Inv X pins σ G { s1 with heap := g } := J.kept (t' := s1.toks) hk
      refine ⟨s1.heap.objs.size + 1, [s1.heap.objs.size + 1, s1.heap.objs.size], _, _, G, rfl, J2, turn_enum a (s1.heap.objs.size + 1) s1.heap.objs.size, ⟨⟨.none, he⟩, hit, Nat.succ_ne_self _⟩, fun b hb => ?_, q⟩
      have hle := fin g J2 b hb
      exact J.fpOk hle (J.hok.fresh hle)
    · obtain ⟨its, rv, p', hz⟩ := J.tuple hq
      have pt : s1.heap.IsTuple a its.toArray := p'
      refine call_en1 (begins_tuple a its.toArray) pt fun g he hit hsz hk => wpAny_pyIter_enum he ?_
      have J2 : Inv X pins σ G { s1 with heap := g } := J.kept (t' := s1.toks) hk
      refine ⟨s1.heap.objs.size + 1, [s1.heap.objs.size + 1, s1.heap.objs.size], _, _, G, rfl, J2, turn_enT a (s1.heap.objs.size + 1) s1.heap.objs.size, ⟨⟨.none, he⟩, ⟨_, hit, rfl, rfl⟩, Nat.succ_ne_self _⟩, fun b hb => ?_, q⟩
      have hle := fin g J2 b hb
      exact J.fpOk hle (J.hok.fresh hle)
end Ow

/-! rules that name K for comprehensions; pairs of texts as they stand; the last one of equal pairs -/
namespace Ow
open PySem PySem.Spec PyProof.Rows L2
theorem _root_.L2.Room.units65 {k : Nat} {A : Around} (r : Room k A) : A.units + 65 < cLine := by
  have := r.un
  omega
section
variable {X : Cx}
theorem slA (K : PySem.W.Frag) (hK : X.K = K := by rfl) : SlR X (fun x lo hi H Q => rSlL K x lo hi H Q ∨ rSlT K x lo hi H Q) := by
  subst hK
  exact sl_list.or sl_tup
theorem slTK (K : PySem.W.Frag) (hK : X.K = K := by rfl) : SlR X (rSlT K) := by
  subst hK
  exact sl_tup
theorem op_notInAK (K : PySem.W.Frag) (hu : X.A.units + 65 < cLine) (hK : X.K = K := by rfl) : OpR X (compareOp .NotIn) (fun x y H Q => rNotInD K x y H Q ∨ rInT K true x y H Q) := by
  subst hK
  exact (op_notInD hu).or (op_notInT hu)
theorem op_inAK (K : PySem.W.Frag) (hu : X.A.units + 65 < cLine) (hK : X.K = K := by rfl) : OpR X (compareOp .In) (fun x y H Q => rInD K x y H Q ∨ rInT K false x y H Q) := by
  subst hK
  exact (op_inD hu).or (op_inT hu)
theorem pg_tupK (K : PySem.W.Frag) {pos : Pos} {es : List Expr} {k : Nat} {t : TGs} {n : Nat} (h : PGs X es t) (hc : X.calm = true := by rfl)
    (hn : (assignEach es X.env).length = n := by rfl) (hst : (assignEach es X.env).findIdx? (·.1) = none := by rfl) (hK : X.K = K := by rfl) : PG X (.Tuple es k pos) (gTup K n t) := by
  subst hK
  exact pg_tup hc h hn hst
end
/-- a pair of texts where it stands -/
abbrev Pl := Addr × Str × Str
def plV (r : Pl) : V := .ref r.1
structure PlAt (H : Hp) (r : Pl) : Prop where
  at_ : H r.1 = some (.tup [.str r.2.1, .str r.2.2])
  o1 : PyData.strOk r.2.1 = true
  o2 : PyData.strOk r.2.2 = true
theorem PlAt.same {H H' : Hp} {r : Pl} (h : PlAt H r) (s : Same H H') : PlAt H' r := ⟨s _ _ h.at_, h.o1, h.o2⟩
def plsD (rs : List Pl) : List PyData := (rs.map (·.2)).map pD
theorem PlAt.dp {K : PySem.W.Frag} {H : Hp} {r : Pl} (h : PlAt H r) : Dp K H (plV r) (pD r.2) := Dp.tup (SqT.of h.at_) (.cons (.str _) (.cons (.str _) .nil))
theorem pls_dp {K : PySem.W.Frag} {H : Hp} : ∀ {rs : List Pl}, (∀ r ∈ rs, PlAt H r) → DpAll K H (rs.map plV) (plsD rs)
  | [], _ => .nil
  | r :: rs, h => .cons (h r List.mem_cons_self).dp (pls_dp fun z hz => h z (List.mem_cons_of_mem _ hz))
theorem pls_lay {rs : List Pl} {H : Hp} (h : ∀ r ∈ rs, PlAt H r) : PyData.canLayAll0 (plsD rs) = true ∧ PyData.depthAll (plsD rs) ≤ 1 := by
  induction rs with
  | nil => exact ⟨rfl, by decide⟩
  | cons e es ih =>
    obtain ⟨z1, z2⟩ := ih fun p hp => h p (List.mem_cons_of_mem _ hp)
    have y1 := (h e List.mem_cons_self).o1
    have y2 := (h e List.mem_cons_self).o2
    refine ⟨?_, ?_⟩
    · show PyData.canLayAll0 (pD e.2 :: plsD es) = true
      simp [PyData.canLayAll0, z1, pD, PyData.canLay0, y1, y2]
    · show PyData.depthAll (pD e.2 :: plsD es) ≤ 1
      simp [PyData.depthAll, pD, PyData.depth]
      omega
theorem pls_shT {rs : List Pl} {H : Hp} (h : ∀ r ∈ rs, PlAt H r) : SeqAt.shaped (.tuple (plsD rs)) = true := by
  obtain ⟨z1, z2⟩ := pls_lay h
  have d : PyData.depthAll (plsD rs) + 1 ≤ 64 := by omega
  simp [SeqAt.shaped, PyData.canLay0, PyData.depth, z1, d]
theorem pls_shL {rs : List Pl} {H : Hp} (h : ∀ r ∈ rs, PlAt H r) : SeqAt.shaped (.list (plsD rs)) = true := by
  obtain ⟨z1, z2⟩ := pls_lay h
  have d : PyData.depthAll (plsD rs) + 1 ≤ 64 := by omega
  simp [SeqAt.shaped, PyData.canLay0, PyData.depth, z1, d]
theorem pls_sh1 {r : Pl} {H : Hp} (h : PlAt H r) : SeqAt.shaped (pD r.2) = true := pD_shaped h.o1 h.o2
def hasP (rs : List Pl) (q : Str × Str) : Bool := rs.any fun z => decide (z.2 = q)
theorem plsD_any (rs : List Pl) (q : Str × Str) : ((plsD rs).any fun z => PyData.eqv z (pD q)) = hasP rs q := by
  induction rs with
  | nil => rfl
  | cons e es ih =>
    show (PyData.eqv (pD e.2) (pD q) || (plsD es).any fun z => PyData.eqv z (pD q)) = (decide (e.2 = q) || hasP es q)
    rw [ih, pD_eqv]
/-- the pairs that do not come again -/
def lastOf : List Pl → List Pl
  | [] => []
  | r :: rs => if hasP rs r.2 then lastOf rs else r :: lastOf rs
theorem lastOf_mem : ∀ {rs : List Pl} {r : Pl}, r ∈ lastOf rs → r ∈ rs
  | [], _, h => h
  | e :: es, r, h => by
    unfold lastOf at h
    split at h
    · exact List.mem_cons_of_mem _ (lastOf_mem h)
    · rcases List.mem_cons.mp h with rfl | h
      · exact List.mem_cons_self
      · exact List.mem_cons_of_mem _ (lastOf_mem h)
theorem lastOf_len : ∀ rs : List Pl, (lastOf rs).length ≤ rs.length
  | [] => Nat.le_refl _
  | e :: es => by
    have := lastOf_len es
    unfold lastOf
    split
    · exact Nat.le_succ_of_le this
    · simpa using this
theorem lastOf_has : ∀ (rs : List Pl) (q : Str × Str), hasP (lastOf rs) q = hasP rs q
  | [], _ => rfl
  | e :: es, q => by
    have ih := lastOf_has es q
    unfold lastOf
    show _ = (decide (e.2 = q) || hasP es q)
    split
    · rename_i h
      rw [ih]
      by_cases c : e.2 = q
      · rw [← c, h]
        simp
      · simp [c]
    · show (decide (e.2 = q) || hasP (lastOf es) q) = _
      rw [ih]
theorem lastOf_twice : ∀ rs : List Pl, lastOf (lastOf rs) = lastOf rs
  | [] => rfl
  | e :: es => by
    have ih := lastOf_twice es
    by_cases c : hasP es e.2 = true
    · have z : lastOf (e :: es) = lastOf es := by
        show (if hasP es e.2 then _ else _) = _
        rw [c]
        rfl
      rw [z, ih]
    · have c' : hasP es e.2 = false := by simpa using c
      have z : lastOf (e :: es) = e :: lastOf es := by
        show (if hasP es e.2 then _ else _) = _
        rw [c']
        rfl
      rw [z]
      show (if hasP (lastOf es) e.2 then _ else _) = _
      rw [lastOf_has, c', ih]
      rfl
theorem cut_from {xs : List V} {i : Nat} {k : Int} (hk : k = ((i + 1 : Nat) : Int)) : cutV xs (some k) none = xs.drop (i + 1) := by
  subst hk
  unfold cutV
  rw [HT.sIx_nat, HT.sIx_none]
  by_cases h : i + 1 ≤ xs.length
  · rw [Nat.min_eq_left h, List.take_of_length_le (by rw [List.length_drop]; omega)]
  · rw [Nat.min_eq_right (by omega), List.drop_of_length_le (Nat.le_refl _), List.drop_of_length_le (by omega)]
    simp
theorem not_whole {xs : List V} {i : Nat} {k : Int} (hk : k = ((i + 1 : Nat) : Int)) (hi : i < xs.length) : ¬ (HT.sIx xs.length 0 (some k) = 0 ∧ HT.sIx xs.length xs.length none = xs.length) := by
  subst hk
  rw [HT.sIx_nat]
  rintro ⟨h, _⟩
  rw [Nat.min_eq_left (by omega)] at h
  cases h
theorem eqvAll_refl : ∀ rs : List Pl, PyData.eqvAll (plsD rs) (plsD rs) = true
  | [] => rfl
  | e :: es => by
    show (PyData.eqv (pD e.2) (pD e.2) && PyData.eqvAll (plsD es) (plsD es)) = true
    rw [eqvAll_refl es, pD_eqv]
    simp
end Ow

namespace Ow
open PySem PySem.Spec PyProof.Rows L2 ClX
/-- C.m is a staticmethod: its record at p, its def at g -/
structure SMet (K : PySem.W.Frag) (C : Addr) (mc : Value) (m : Str) (p g : Addr) : Prop where
  at_ : PySem.W.findCls K (.ref C) mc m = some (.get (.builtin "staticmethod.__get__") (.ref p) .none (.ref C))
  rc : ∃ rest, PySem.W.recIn K p "staticmethod" = some (.ref g :: rest)
  kp : PySem.W.keepIn K (.ref g) = true
/-- .. reached through an instance of C -/
structure SInst (K : PySem.W.Frag) (C : Addr) (m : Str) (p g : Addr) : Prop where
  pg : PySem.W.plainGet K C Str.empty = true
  ic : PySem.W.isClsIn K C = true
  at_ : PySem.W.findIn K (.ref C) m = some (some (.ref p))
  ty : PySem.W.typeIn K (.ref p) = some (.type "staticmethod")
  get : PySem.W.specialIn K (.ref p) "__get__" = some (some (.builtin "staticmethod.__get__"))
  tk : PySem.W.takesIn K (.ref p) = some false
  cp : PySem.W.copiedNames.contains m = false
  rc : ∃ rest, PySem.W.recIn K p "staticmethod" = some (.ref g :: rest)
  kp : PySem.W.keepIn K (.ref g) = true
theorem SInst.pgm {K : PySem.W.Frag} {C p g : Addr} {m : Str} (k : SInst K C m p g) : PySem.W.plainGet K C m = true := k.pg
section
variable {X : Cx} {pins : List (Addr × Obj)} {σ : L2.St} {H : Hp} {s : Shared} {a C p g : Addr} {mc : Value} {m : Str} {A : Around} {E : Value → Shared → Prop} {pl : Sem Bool} {Q : Value × List Value → Shared → Prop}
theorem getsm_ok (I : Inv X pins σ H s) (r : CRead X.K C mc) (k : SMet X.K C mc m p g) (h : ∀ s', Inv X pins σ H s' → Q (.ref g, []) s') : wpAny (model X.prog X.w) A (getMethod (.ref C) m pl) Q E s := by
  obtain ⟨rest, hp⟩ := k.rc
  refine PySem.W.method_cls I.kIn r.ga (PySem.W.cls_bind I.kIn r.rd k.at_ ?_)
  exact wpAny_call (PySem.W.sm_get (s := { s with toks := s.toks + 1 }) I.kIn hp (PySem.W.handed_on rfl (h _ (I.tok _))))
theorem getsim_ok {ox od : Obj} (I : Inv X pins σ H s) (J : PySem.W.InstAt s.heap a ox C (some od)) (hl : PySem.W.lookIn m od = some none) (k : SInst X.K C m p g) (h : ∀ s', Inv X pins σ H s' → Q (.ref g, []) s') :
    wpAny (model X.prog X.w) A (getMethod (.ref a) m pl) Q E s := by
  obtain ⟨rest, hp⟩ := k.rc
  have pgm := PySem.W.plainGet_of k.pgm
  refine PySem.W.method_usual (r := some (.ref p)) I.kIn J pgm.1 pgm.2 k.at_ ?_ ?_
  · have e := k.ty
    show ((PySem.W.typeIn X.K (.ref p)).any fun t => t != .type "function" && t != .type "method_descriptor" && t != .type "wrapper_descriptor") = true
    rw [e]
    first | rfl | decide +kernel
  · refine PySem.W.get_bind I.kIn J pgm.1 (find_cm k.ic k.at_ k.get k.tk k.cp hl) pgm.2 ?_
    exact wpAny_call (PySem.W.sm_get (s := { s with toks := s.toks + 1 }) I.kIn hp (PySem.W.handed_on rfl (h _ (I.tok _))))
end
section
variable {X : Cx} {CX : CXT} {k : Nat} {C p g : Addr} {mc : Value} {sp : Sp} {E : XK} {o e : Expr} {es : List Expr} {m : Str} {pos apos : Pos} {ta : TE} {t : TA} {pl : Sem Bool}
theorem run_R {pins : List (Addr × Obj)} {σ : L2.St} {H : Hp} {s : Shared} {Q : VK} {us : List Value} {vs : List V} (F : FnR X.prog X.w X.K X.mg X.base CX k g sp) (hr : Room k X.A) (hx : Passes CX X E) (I : Inv X pins σ H s) (r : Vals vs us) (h : sp vs H Q E) :
    wpAny (model X.prog X.w) X.A (call (.ref g) us) (EP X pins σ Q) X.xe s := wpAny_call (run_fnR F hr hx I r h)
/-- e.m(..), e the class at C, m a staticmethod of it -/
def tSMeth (C : Addr) (sp : Sp) (E : XK) (ta : TE) (t : TA) : TE := fun σ H Q => ta σ H fun x H1 => x = .ref C ∧ t σ H1 fun vs H2 => sp vs H2 Q E
theorem pe_smeth (he : PE X o ta) (r : CRead X.K C mc) (c : SMet X.K C mc m p g) (F : FnR X.prog X.w X.K X.mg X.base CX k g sp) (hr : Room k X.A) (hx : Passes CX X E) (ha : PA X (e :: es) t)
    (hst : starEach (e :: es) X.env = (false, eval e X.env) :: starEach es X.env := by rfl) (hpl : (backTo pos (starEach es X.env)).any (·.1) = false := by rfl)
    (ht : eval (.Call (.Attribute o m apos) (e :: es) [] pos) X.env = (do
      let ov ← eval o X.env
      standAt apos.atName
      let (fv, fst) ← holding [ov] (getMethod ov m pl)
      callWith pos fv fst (backTo pos (starEach (e :: es) X.env)) (backToKw pos (keywordEach [] X.env))) := by rfl) :
    PE X (.Call (.Attribute o m apos) (e :: es) [] pos) (tSMeth C sp E ta t) := by
  refine ⟨fun pins s σ H Q I h => ?_⟩
  refine PySem.W.methodCall_KW (pl := pl) (thn (he.run pins s σ H _ I h) fun u s1 ⟨x, H1, I1, rx, ex, q⟩ => ?_) ht
  subst ex
  cases (show u = Value.ref C from rx)
  refine getsm_ok I1 r c fun s2 I2 => ?_
  exact PySem.W.callWith_K (h₀ := X.base) (first := []) I.ok.mod.kin c.kp (thn (ha.run pos pins s2 σ H1 _ I2 q) fun us s3 ⟨vs, H2, I3, rv, q2⟩ => ⟨I3.kIn, run_R F hr hx I3 rv q2⟩) hst hpl
/-- .. through an instance -/
def tSMethI (C : Addr) (m : Str) (sp : Sp) (E : XK) (ta : TE) (t : TA) : TE := fun σ H Q => ta σ H fun x H1 => ∃ a dx fs, x = .ref a ∧ H1 a = some (.ins C dx fs) ∧ fs.lookup m = none ∧ t σ H1 fun vs H2 => sp vs H2 Q E
theorem pe_smethI (he : PE X o ta) (c : SInst X.K C m p g) (F : FnR X.prog X.w X.K X.mg X.base CX k g sp) (hr : Room k X.A) (hx : Passes CX X E) (ha : PA X (e :: es) t)
    (hst : starEach (e :: es) X.env = (false, eval e X.env) :: starEach es X.env := by rfl) (hpl : (backTo pos (starEach es X.env)).any (·.1) = false := by rfl)
    (ht : eval (.Call (.Attribute o m apos) (e :: es) [] pos) X.env = (do
      let ov ← eval o X.env
      standAt apos.atName
      let (fv, fst) ← holding [ov] (getMethod ov m pl)
      callWith pos fv fst (backTo pos (starEach (e :: es) X.env)) (backToKw pos (keywordEach [] X.env))) := by rfl) :
    PE X (.Call (.Attribute o m apos) (e :: es) [] pos) (tSMethI C m sp E ta t) := by
  refine ⟨fun pins s σ H Q I h => ?_⟩
  refine PySem.W.methodCall_KW (pl := pl) (thn (he.run pins s σ H _ I h) fun u s1 ⟨x, H1, I1, rx, a, dx, fs, ex, ea, l, q⟩ => ?_) ht
  subst ex
  cases (show u = Value.ref a from rx)
  obtain ⟨mA, O, rr, _⟩ := ins_get I1.hok ea
  have hn : mA m = none := RelO.none_of (by rw [← l]; exact rr m)
  obtain ⟨od, J, hl⟩ := O.look
  refine getsim_ok I1 J (by rw [hl m, hn]) c fun s2 I2 => ?_
  exact PySem.W.callWith_K (h₀ := X.base) (first := []) I.ok.mod.kin c.kp (thn (ha.run pos pins s2 σ H1 _ I2 q) fun us s3 ⟨vs, H2, I3, rv, q2⟩ => ⟨I3.kIn, run_R F hr hx I3 rv q2⟩) hst hpl
end
end Ow

/-! any value: None, truth values, ints, texts, tuples of such, as it stands in the heap; its depth and its bulk -/
namespace Ow
open PySem PySem.Spec PyProof.Rows L2
mutual
def Vd (H : Hp) : PyData → V → Prop
  | .none, v => v = .non
  | .bool b, v => v = .bl b
  | .int i, v => v = .int i
  | .str x, v => v = .str x
  | .tuple ds, v => ∃ a xs, v = .ref a ∧ H a = some (.tup xs) ∧ VdA H ds xs
  | .list _, _ => False
  | .dict _, _ => False
def VdA (H : Hp) : List PyData → List V → Prop
  | [], xs => xs = []
  | d :: ds, xs => ∃ x r, xs = x :: r ∧ Vd H d x ∧ VdA H ds r
end
def TupKept (H H' : Hp) : Prop := ∀ a xs, H a = some (.tup xs) → H' a = some (.tup xs)
theorem TupKept.refl (H : Hp) : TupKept H H := fun _ _ h => h
theorem TupKept.trans {H H1 H2 : Hp} (x : TupKept H H1) (y : TupKept H1 H2) : TupKept H H2 := fun a xs e => y a xs (x a xs e)
theorem _root_.L2.Same.tkept {H H' : Hp} (s : Same H H') : TupKept H H' := fun a xs e => s a _ e
theorem tkept_lst {H : Hp} {p : Addr} {xs : List V} {o : HO} (e : H p = some (.lst xs)) : TupKept H (upd H p o) := fun a ys ea => by
  rw [upd_ne (ne_of ea e (by intro z; cases z))]
  exact ea
mutual
theorem Vd.keep {H H' : Hp} (s : TupKept H H') : ∀ {d : PyData} {v : V}, Vd H d v → Vd H' d v
  | .none, _, h => h
  | .bool _, _, h => h
  | .int _, _, h => h
  | .str _, _, h => h
  | .tuple ds, v, h => by
    unfold Vd at h ⊢
    obtain ⟨a, xs, e, ea, hs⟩ := h
    exact ⟨a, xs, e, s _ _ ea, VdA.keep s hs⟩
  | .list _, _, h => h
  | .dict _, _, h => h
theorem VdA.keep {H H' : Hp} (s : TupKept H H') : ∀ {ds : List PyData} {xs : List V}, VdA H ds xs → VdA H' ds xs
  | [], _, h => h
  | d :: ds, xs, h => by
    unfold VdA at h ⊢
    obtain ⟨x, r, e, h1, h2⟩ := h
    exact ⟨x, r, e, Vd.keep s h1, VdA.keep s h2⟩
end
mutual
theorem Vd.dp {K : PySem.W.Frag} {H : Hp} : ∀ {d : PyData} {v : V}, Vd H d v → Dp K H v d
  | .none, _, h => by unfold Vd at h; subst h; exact .non
  | .bool _, _, h => by unfold Vd at h; subst h; exact .bl _
  | .int _, _, h => by unfold Vd at h; subst h; exact .int _
  | .str _, _, h => by unfold Vd at h; subst h; exact .str _
  | .tuple ds, v, h => by
    unfold Vd at h
    obtain ⟨a, xs, e, ea, hs⟩ := h
    subst e
    exact .tup (SqT.of ea) (VdA.dp hs)
  | .list _, _, h => by unfold Vd at h; exact h.elim
  | .dict _, _, h => by unfold Vd at h; exact h.elim
theorem VdA.dp {K : PySem.W.Frag} {H : Hp} : ∀ {ds : List PyData} {xs : List V}, VdA H ds xs → DpAll K H xs ds
  | [], _, h => by unfold VdA at h; subst h; exact .nil
  | d :: ds, xs, h => by
    unfold VdA at h
    obtain ⟨x, r, e, h1, h2⟩ := h
    subst e
    exact .cons (Vd.dp h1) (VdA.dp h2)
end
theorem VdA.len {H : Hp} : ∀ {ds : List PyData} {xs : List V}, VdA H ds xs → xs.length = ds.length
  | [], _, h => by unfold VdA at h; subst h; rfl
  | d :: ds, xs, h => by
    unfold VdA at h
    obtain ⟨x, r, e, h1, h2⟩ := h
    subst e
    rw [List.length_cons, List.length_cons, VdA.len h2]
theorem VdA.at_ {H : Hp} : ∀ {ds : List PyData} {xs : List V} {i : Nat}, VdA H ds xs → i < ds.length → ∃ d x, ds[i]? = some d ∧ xs[i]? = some x ∧ Vd H d x
  | [], _, _, _, hi => by simp at hi
  | d :: ds, xs, i, h, hi => by
    unfold VdA at h
    obtain ⟨x, r, e, h1, h2⟩ := h
    subst e
    cases i with
    | zero => exact ⟨d, x, rfl, rfl, h1⟩
    | succ i => simpa using VdA.at_ (i := i) h2 (by simpa using hi)
theorem VdA.cons {H : Hp} {d : PyData} {x : V} {ds : List PyData} {xs : List V} (h : Vd H d x) (hs : VdA H ds xs) : VdA H (d :: ds) (x :: xs) := by
  unfold VdA
  exact ⟨x, xs, rfl, h, hs⟩
theorem VdA.nil {H : Hp} : VdA H [] [] := by unfold VdA; rfl
theorem VdA.one {H : Hp} {d : PyData} {x : V} (h : Vd H d x) : VdA H [d] [x] := VdA.cons h VdA.nil
theorem VdA.uncons {H : Hp} {d : PyData} {ds : List PyData} {xs : List V} (h : VdA H (d :: ds) xs) : ∃ x r, xs = x :: r ∧ Vd H d x ∧ VdA H ds r := by
  unfold VdA at h
  exact h
theorem VdA.app {H : Hp} : ∀ {ds : List PyData} {xs : List V} {es : List PyData} {ys : List V}, VdA H ds xs → VdA H es ys → VdA H (ds ++ es) (xs ++ ys)
  | [], _, _, _, h, h2 => by unfold VdA at h; subst h; exact h2
  | d :: ds, xs, es, ys, h, h2 => by
    obtain ⟨x, r, e, h1, h3⟩ := h.uncons
    subst e
    exact VdA.cons h1 (VdA.app h3 h2)
theorem VdA.take {H : Hp} : ∀ (n : Nat) {ds : List PyData} {xs : List V}, VdA H ds xs → VdA H (ds.take n) (xs.take n)
  | 0, _, _, _ => by simpa using VdA.nil
  | n + 1, [], _, h => by unfold VdA at h; subst h; simpa using VdA.nil
  | n + 1, d :: ds, xs, h => by
    obtain ⟨x, r, e, h1, h3⟩ := h.uncons
    subst e
    exact VdA.cons h1 (VdA.take n h3)
theorem VdA.drop {H : Hp} : ∀ (n : Nat) {ds : List PyData} {xs : List V}, VdA H ds xs → VdA H (ds.drop n) (xs.drop n)
  | 0, _, _, h => h
  | n + 1, [], _, h => by unfold VdA at h; subst h; simpa using VdA.nil
  | n + 1, d :: ds, xs, h => by
    obtain ⟨x, r, e, h1, h3⟩ := h.uncons
    subst e
    exact VdA.drop n h3
/-- the type's name -/
def tyOf : PyData → String
  | .none => "NoneType"
  | .bool _ => "bool"
  | .int _ => "int"
  | .str _ => "str"
  | .list _ => "list"
  | .tuple _ => "tuple"
  | .dict _ => "dict"
theorem Vd.ty {K : PySem.W.Frag} {H : Hp} {d : PyData} {v : V} (h : Vd H d v) : TyX K H v (.type (tyOf d)) := by
  cases d with
  | none => unfold Vd at h; subst h; exact .base .non
  | bool b => unfold Vd at h; subst h; exact .base (.bl b)
  | int i => unfold Vd at h; subst h; exact .base (.int i)
  | str x => unfold Vd at h; subst h; exact .base (.str x)
  | tuple ds =>
    unfold Vd at h
    obtain ⟨a, xs, e, ea, hs⟩ := h
    subst e
    exact .base (.tup ea)
  | list _ => unfold Vd at h; exact h.elim
  | dict _ => unfold Vd at h; exact h.elim
theorem Vd.tup {H : Hp} {ds : List PyData} {v : V} (h : Vd H (.tuple ds) v) : ∃ a xs, v = .ref a ∧ H a = some (.tup xs) ∧ VdA H ds xs := by
  unfold Vd at h
  exact h
theorem Vd.ofTup {H : Hp} {ds : List PyData} {a : Addr} {xs : List V} (e : H a = some (.tup xs)) (h : VdA H ds xs) : Vd H (.tuple ds) (.ref a) := by
  unfold Vd
  exact ⟨a, xs, rfl, e, h⟩
theorem Vd.str {H : Hp} {x : Str} {v : V} (h : Vd H (.str x) v) : v = .str x := by unfold Vd at h; exact h
theorem Vd.int {H : Hp} {i : Int} {v : V} (h : Vd H (.int i) v) : v = .int i := by unfold Vd at h; exact h
theorem Vd.mkStr {H : Hp} (x : Str) : Vd H (.str x) (.str x) := by unfold Vd; rfl
theorem Vd.mkInt {H : Hp} (i : Int) : Vd H (.int i) (.int i) := by unfold Vd; rfl
theorem Vd.mkBl {H : Hp} (b : Bool) : Vd H (.bool b) (.bl b) := by unfold Vd; rfl
theorem Vd.mkNon {H : Hp} : Vd H .none .non := by unfold Vd; rfl
/-! ### what fits -/
mutual
def gd : PyData → Bool
  | .none => true
  | .bool _ => true
  | .int i => decide (i.natAbs.log2 < 100)
  | .str x => PyData.strOk x
  | .tuple ds => gdA ds
  | .list _ => false
  | .dict _ => false
def gdA : List PyData → Bool
  | [] => true
  | d :: ds => gd d && gdA ds
end
mutual
def wt : PyData → Nat
  | .none => 10
  | .bool _ => 10
  | .int _ => 200
  | .str x => 10 * x.length + 10
  | .tuple ds => wtA ds + 10
  | .list _ => 0
  | .dict _ => 0
def wtA : List PyData → Nat
  | [] => 0
  | d :: ds => wt d + 2 + wtA ds
end
theorem gdA_iff : ∀ {ds : List PyData}, gdA ds = true ↔ ∀ d ∈ ds, gd d = true
  | [] => by simp [gdA]
  | d :: ds => by simp [gdA, gdA_iff (ds := ds)]
theorem wtA_app : ∀ (ds es : List PyData), wtA (ds ++ es) = wtA ds + wtA es
  | [], es => by simp [wtA]
  | d :: ds, es => by simp [wtA, wtA_app ds es]; omega
theorem wtA_mem : ∀ {ds : List PyData} {d : PyData}, d ∈ ds → wt d + 2 ≤ wtA ds
  | e :: es, d, h => by
    unfold wtA
    rcases List.mem_cons.mp h with rfl | h
    · omega
    · have := wtA_mem h
      omega
theorem wtA_len : ∀ ds : List PyData, 2 * ds.length ≤ wtA ds
  | [] => by simp
  | d :: ds => by
    have := wtA_len ds
    simp [wtA]
    omega
theorem wtA_sub : ∀ {es ds : List PyData}, es.Sublist ds → wtA es ≤ wtA ds
  | _, _, .slnil => Nat.le_refl _
  | _, _, .cons d h => by
    have := wtA_sub h
    simp [wtA]
    omega
  | _, _, .cons₂ d h => by
    have := wtA_sub h
    simp [wtA]
    omega
theorem depthA_mem {ds : List PyData} {d : PyData} (h : d ∈ ds) : d.depth ≤ PyData.depthAll ds := by
  induction ds with
  | nil => cases h
  | cons e es ih =>
    unfold PyData.depthAll
    rcases List.mem_cons.mp h with rfl | h
    · exact Nat.le_max_left _ _
    · exact Nat.le_trans (ih h) (Nat.le_max_right _ _)
theorem depthA_le {ds : List PyData} {n : Nat} (h : ∀ d ∈ ds, d.depth ≤ n) : PyData.depthAll ds ≤ n := by
  induction ds with
  | nil => exact Nat.zero_le _
  | cons e es ih =>
    unfold PyData.depthAll
    exact Nat.max_le.mpr ⟨h e List.mem_cons_self, ih fun d hd => h d (List.mem_cons_of_mem _ hd)⟩
structure Good (d : PyData) (n S : Nat) : Prop where
  gd : gd d = true
  dp : d.depth ≤ n
  wt : wt d ≤ S
theorem Good.mono {d : PyData} {n n' S S' : Nat} (h : Good d n S) (h1 : n ≤ n') (h2 : S ≤ S') : Good d n' S' := ⟨h.gd, Nat.le_trans h.dp h1, Nat.le_trans h.wt h2⟩
theorem Good.item {ds : List PyData} {d : PyData} {n S : Nat} (h : Good (.tuple ds) (n + 1) S) (hd : d ∈ ds) : Good d n S := by
  refine ⟨?_, ?_, ?_⟩
  · have := h.gd
    simp only [Ow.gd] at this
    exact gdA_iff.mp this d hd
  · have := h.dp
    unfold PyData.depth at this
    exact Nat.le_trans (depthA_mem hd) (Nat.le_of_succ_le_succ this)
  · have := h.wt
    unfold Ow.wt at this
    have := wtA_mem hd
    omega
theorem Good.dpos {ds : List PyData} {n S : Nat} (h : Good (.tuple ds) n S) : ∃ m, n = m + 1 := by
  have := h.dp
  unfold PyData.depth at this
  exact ⟨n - 1, by omega⟩
theorem Good.ofItems {ds : List PyData} {n S : Nat} (hd : ∀ d ∈ ds, Ow.gd d = true ∧ d.depth ≤ n) (hw : wtA ds + 10 ≤ S) : Good (.tuple ds) (n + 1) S := by
  refine ⟨?_, ?_, ?_⟩
  · simp only [Ow.gd]
    exact gdA_iff.mpr fun d h => (hd d h).1
  · unfold PyData.depth
    exact Nat.succ_le_succ (depthA_le fun d h => (hd d h).2)
  · unfold Ow.wt
    exact hw
theorem Good.lenS {ds : List PyData} {n S : Nat} (h : Good (.tuple ds) n S) : 2 * ds.length + 10 ≤ S := by
  have := h.wt
  unfold Ow.wt at this
  have := wtA_len ds
  omega
mutual
theorem gd_show : ∀ {d : PyData}, gd d = true → d.showable = true ∧ d.hasDict = false ∧ d.shown.length ≤ wt d ∧ d.canLay0 = true
  | .none, _ => ⟨rfl, rfl, by decide +kernel, rfl⟩
  | .bool b, _ => ⟨rfl, rfl, by cases b <;> decide +kernel, rfl⟩
  | .int i, h => by
    have h1 : i.natAbs.log2 < 100 := by simpa [gd] using h
    refine ⟨?_, rfl, ?_, ?_⟩
    · simp [PyData.showable]
      omega
    · have e := int_text_length_le (k := 100) (by decide) h1
      show (Str.ofString (toString i)).length ≤ 200
      rw [PySem.ofString_length]
      omega
    · simp [PyData.canLay0]
  | .str x, h => by
    have h1 : PyData.strOk x = true := by simpa [gd] using h
    refine ⟨rfl, rfl, ?_, by simpa [PyData.canLay0] using h1⟩
    show (reprText x).length ≤ 10 * x.length + 10
    have := StrLaws.reprText_len x (fun c hc => by
      have h2 := Array.all_eq_true'.mp (show x.cps.all (· < 0x110000) = true from h1) c (by simpa using hc)
      have : c < 1114112 := by simpa using h2
      have e : (16 : Nat) ^ 8 = 4294967296 := by decide
      omega)
    omega
  | .tuple ds, h => by
    have h1 : gdA ds = true := by simpa [gd] using h
    obtain ⟨a1, a2, a3, a4⟩ := gdA_show h1
    refine ⟨a1, a2, ?_, a4⟩
    show (tupleText (PyData.shownAll ds)).length ≤ wtA ds + 10
    have z := tupleText_len_le (PyData.shownAll ds)
    omega
  | .list _, h => by simp [gd] at h
  | .dict _, h => by simp [gd] at h
theorem gdA_show : ∀ {ds : List PyData}, gdA ds = true → PyData.showableAll ds = true ∧ PyData.hasDictAll ds = false ∧ ((PyData.shownAll ds).map (·.length)).sum + 2 * (PyData.shownAll ds).length ≤ wtA ds ∧ PyData.canLayAll0 ds = true
  | [], _ => ⟨rfl, rfl, by simp [PyData.shownAll], rfl⟩
  | d :: ds, h => by
    have h1 : gd d = true ∧ gdA ds = true := by simpa [gdA] using h
    obtain ⟨a1, a2, a3, a4⟩ := gd_show h1.1
    obtain ⟨b1, b2, b3, b4⟩ := gdA_show h1.2
    refine ⟨?_, ?_, ?_, ?_⟩
    · simp [PyData.showableAll, a1, b1]
    · simp [PyData.hasDictAll, a2, b2]
    · simp [PyData.shownAll, wtA]
      omega
    · simp [PyData.canLayAll0, a4, b4]
end
theorem Good.shaped {d : PyData} {n S : Nat} (h : Good d n S) (hn : n ≤ 64) : SeqAt.shaped d = true := by
  have z := (gd_show h.gd).2.2.2
  have y := h.dp
  have : d.depth ≤ 64 := by omega
  simp [SeqAt.shaped, z, this]
end Ow

namespace Ow
open PySem PySem.Spec PyProof.Rows L2
/-! slices and sums of tuples of any values -/
theorem slA_take {K : PySem.W.Frag} {H : Hp} {ds : List PyData} {v : V} {k : Nat} {Q : VK} (hv : Vd H (.tuple ds) v) (hk : k ≤ ds.length) (q : ∀ u G, Same H G → Vd G (.tuple (ds.take k)) u → Q u G) : rSlA K v none (some (k : Int)) H Q := by
  obtain ⟨a, xs, rfl, ea, hs⟩ := hv.tup
  have hl := hs.len
  have cu : cutV xs none (some (k : Int)) = xs.take k := by
    unfold cutV
    rw [HT.sIx_none, HT.sIx_nat, List.drop_zero, Nat.sub_zero, Nat.min_eq_left (by omega)]
  refine ⟨a, xs, rfl, SqT.of ea, fun h => ?_, fun _ p np => ?_⟩
  · rw [HT.sIx_nat] at h
    have : k = ds.length := by
      have := h.2
      rw [Nat.min_eq_left (by omega)] at this
      omega
    refine q _ H (Same.refl _) ?_
    rw [this, List.take_length]
    exact hv
  · rw [cu]
    have s : Same H (upd H p (.tup (xs.take k))) := fun b o e => by
      rw [upd_ne (ne_of_none e np)]
      exact e
    exact q _ _ s (Vd.ofTup upd_same ((hs.take k).keep s.tkept))
theorem slA_drop {K : PySem.W.Frag} {H : Hp} {ds : List PyData} {v : V} {k : Nat} {Q : VK} (hv : Vd H (.tuple ds) v) (hk : k ≤ ds.length) (q : ∀ u G, Same H G → Vd G (.tuple (ds.drop k)) u → Q u G) : rSlA K v (some (k : Int)) none H Q := by
  obtain ⟨a, xs, rfl, ea, hs⟩ := hv.tup
  have hl := hs.len
  have cu : cutV xs (some (k : Int)) none = xs.drop k := by
    unfold cutV
    rw [HT.sIx_none, HT.sIx_nat, Nat.min_eq_left (by omega), List.take_of_length_le (by rw [List.length_drop]; omega)]
  refine ⟨a, xs, rfl, SqT.of ea, fun h => ?_, fun _ p np => ?_⟩
  · rw [HT.sIx_nat] at h
    have : k = 0 := by
      have := h.1
      rw [Nat.min_eq_left (by omega)] at this
      exact this
    refine q _ H (Same.refl _) ?_
    rw [this, List.drop_zero]
    exact hv
  · rw [cu]
    have s : Same H (upd H p (.tup (xs.drop k))) := fun b o e => by
      rw [upd_ne (ne_of_none e np)]
      exact e
    exact q _ _ s (Vd.ofTup upd_same ((hs.drop k).keep s.tkept))
theorem slA_dropE {K : PySem.W.Frag} {H : Hp} {ds : List PyData} {v : V} {k : Nat} {z : Int} {Q : VK} (hz : z = (k : Int)) (hv : Vd H (.tuple ds) v) (hk : k ≤ ds.length) (q : ∀ u G, Same H G → Vd G (.tuple (ds.drop k)) u → Q u G) : rSlA K v (some z) none H Q := by
  subst hz
  exact slA_drop hv hk q
theorem catA {K : PySem.W.Frag} {H : Hp} {ds es : List PyData} {u v : V} {Q : VK} (hu : Vd H (.tuple ds) u) (hv : Vd H (.tuple es) v) (hz : ds.length + es.length ≤ sizeLine) (q : ∀ x G, Same H G → Vd G (.tuple (ds ++ es)) x → Q x G) : rCatA K u v H Q := by
  obtain ⟨a, xs, rfl, ea, hs⟩ := hu.tup
  obtain ⟨b, ys, rfl, eb, hy⟩ := hv.tup
  refine ⟨a, b, xs, ys, rfl, rfl, SqT.of ea, SqT.of eb, by rw [hs.len, hy.len]; exact hz, fun h => ?_, fun _ h => ?_, fun _ _ p np => ?_⟩
  · have : ds = [] := List.length_eq_zero_iff.mp (by rw [← hs.len, h]; rfl)
    refine q _ H (Same.refl _) ?_
    rw [this]
    exact hv
  · have : es = [] := List.length_eq_zero_iff.mp (by rw [← hy.len, h]; rfl)
    refine q _ H (Same.refl _) ?_
    rw [this, List.append_nil]
    exact hu
  · have s : Same H (upd H p (.tup (xs ++ ys))) := fun c o e => by
      rw [upd_ne (ne_of_none e np)]
      exact e
    exact q _ _ s (Vd.ofTup upd_same ((hs.app hy).keep s.tkept))
theorem take_mem {ds : List PyData} {k : Nat} {d : PyData} (h : d ∈ ds.take k) : d ∈ ds := List.mem_of_mem_take h
theorem drop_mem {ds : List PyData} {k : Nat} {d : PyData} (h : d ∈ ds.drop k) : d ∈ ds := List.mem_of_mem_drop h
theorem wtA_take_drop (ds : List PyData) (k : Nat) : wtA (ds.take k) + wtA (ds.drop k) = wtA ds := by
  rw [← wtA_app, List.take_append_drop]
theorem wtA_cons (d : PyData) (ds : List PyData) : wtA (d :: ds) = wt d + 2 + wtA ds := by
  show wt d + 2 + wtA ds = _
  rfl
theorem wtA_at {ds : List PyData} {k : Nat} {d : PyData} (h : ds[k]? = some d) : wtA ds = wtA (ds.take k) + (wt d + 2) + wtA (ds.drop (k + 1)) := by
  have hk := (List.getElem?_eq_some_iff.mp h).1
  have e : ds.drop k = d :: ds.drop (k + 1) := by
    rw [List.drop_eq_getElem_cons hk, (List.getElem?_eq_some_iff.mp h).2]
  rw [← wtA_take_drop ds k, e, wtA_cons]
  omega
theorem gdA_app {ds es : List PyData} : gdA (ds ++ es) = true ↔ gdA ds = true ∧ gdA es = true := by
  rw [gdA_iff, gdA_iff, gdA_iff]
  constructor
  · intro h
    exact ⟨fun d hd => h d (List.mem_append_left _ hd), fun d hd => h d (List.mem_append_right _ hd)⟩
  · rintro ⟨h1, h2⟩ d hd
    rcases List.mem_append.mp hd with h | h
    · exact h1 d h
    · exact h2 d h
/-- a tuple of items that fit -/
theorem Good.made {ds : List PyData} {n S : Nat} (hd : ∀ d ∈ ds, Good d n S) (hw : wtA ds + 10 ≤ S) : Good (.tuple ds) (n + 1) S := Good.ofItems (fun d h => ⟨(hd d h).gd, (hd d h).dp⟩) hw
theorem Good.items {ds : List PyData} {n S : Nat} (h : Good (.tuple ds) n S) : ∀ d ∈ ds, Good d (n - 1) S := fun d hd => by
  obtain ⟨m, rfl⟩ := h.dpos
  exact h.item hd
theorem Good.wtT {ds : List PyData} {n S : Nat} (h : Good (.tuple ds) n S) : wtA ds + 10 ≤ S := h.wt
end Ow

/-! raised and caught: C(..) whose __init__ may raise, within a try; isinstance of a held exception against several classes -/
namespace Ow
open PySem PySem.Spec PyProof.Rows L2
section
variable {X : Cx} {CX : CXT} {k : Nat} {f C : Addr} {fd : FuncData} {ps : List Str} {sp : Sp} {x : Str} {p pos : Pos} {e : Expr} {es : List Expr} {t : TA}
def tMakeS (C : Addr) (sp : Sp) (E : L2.St → XK) (t : TA) : TE := fun σ H Q => t σ H fun vs G => ∀ o dx, G o = none → G dx = none → dx ≠ o →
  sp (.ref o :: vs) (upd (upd G dx (.own o)) o (.ins C dx [])) (fun v G2 => v = .non ∧ Q (.ref o) G2) (E σ)
theorem pe_makeS {E : L2.St → XK} (M : Mk X.K C f) (F : FnOk X.prog X.w X.K X.mg X.base CX k f fd ps sp) (hr : Room (k + 1) X.A) (hg : Gl X x) (hm : X.mg x = some (.ref C)) (hb : Binds X.K fd ps []) (hx : ∀ σ, PassesAt CX X σ (E σ))
    (ha : PA X (e :: es) t) (hdb : (x == ("__debug__" : Str)) = false := by decide) (he : starEach (e :: es) X.env = (false, eval e X.env) :: starEach es X.env := by rfl) (hpl : (backTo pos (starEach es X.env)).any (·.1) = false := by rfl) :
    PE X (.Call (.Name x p) (e :: es) [] pos) (tMakeS C sp E t) := by
  refine ⟨fun pins s σ H Q I h => ?_⟩
  refine wpAny_Call_Name_kw (ld_glob I hg hm ?_ hdb)
  refine PySem.W.callWith_K (h₀ := X.base) I.ok.mod.kin M.kp (thn (ha.run pos pins s σ H _ I h) fun us s1 ⟨vs, G, J, r, q⟩ => ⟨J.kIn, ?_⟩) he hpl
  have q0 := q (s1.heap.objs.size + 1) s1.heap.objs.size (J.hok.fresh (Nat.le_succ _)) (J.hok.fresh (Nat.le_refl _)) (Nat.ne_of_lt (Nat.lt_succ_self _))
  have J2 := Inv.made (C := C) J
  have r2 : Vals (V.ref (s1.heap.objs.size + 1) :: vs) (Value.ref (s1.heap.objs.size + 1) :: us) := .cons rfl r
  have ln : (Value.ref (s1.heap.objs.size + 1) :: us).length = ps.length := by
    have z := r2.length
    rw [F.len _ _ _ _ q0] at z
    exact z.symm
  have b := hb _ (Value.ref (s1.heap.objs.size + 1) :: us) J2.kIn (by rw [List.append_nil]; exact ln)
  rw [List.append_nil] at b
  refine wpAny_call (make_map (f := f) J.kIn M.makes M.init (beq_iff_eq.mp M.fn) (codeAny_mono (F.run _ X.stack _ _ ⟨Value.ref (s1.heap.objs.size + 1) :: us, []⟩ (Value.ref (s1.heap.objs.size + 1) :: us) _ _ (E σ) (hr.make C us [])
    (J2.env0.make C us []) b r2 q0) fun r s' hq' => ?_))
  cases r with
  | error er => exact hx σ pins _ _ er s' J2 hq'
  | ok fl =>
    cases fl with
    | ret u =>
      obtain ⟨v, G', J3, rv, ev, q3⟩ := J2.after hq'
      subst ev
      exact ⟨rv, ⟨V.ref (s1.heap.objs.size + 1), G', J3, rfl, q3⟩⟩
    | next => exact False.elim hq'
    | brk => exact False.elim hq'
    | cont => exact False.elim hq'
/-- isinstance(e, (C1, C2, ..)), e the exception that the suite holds, with its own dict -/
def rIsET (K : PySem.W.Frag) (D a : Addr) : List V → Hp → VK → Prop := fun xs H Q => ∃ (tp : Addr) (cs : List V) (us : List Value) (b : Bool), xs = [.ref a, .ref tp] ∧ H tp = some (.tup cs) ∧ Paired ClsV cs us ∧ PySem.W.kitAny K (.ref D) us = some b ∧ Q (.bl b) H
theorem held_at {a D : Addr} {d : Option Addr} {oe : Obj} {pn : List (Addr × Obj)} {pins : List (Addr × Obj)} {σ : L2.St} {H : Hp} {s : Shared} {dd : Addr} {fs : List (Str × V)} (I : Inv (X.suite a ((a, oe) :: pn)) pins σ H s) (hz : Zc (.ref D) d oe) (hf : ∃ vs, oe.data = .fields vs)
    (ed : d = some dd) (ea : H dd = some (.xd fs)) : ∃ od, PySem.W.InstAt s.heap a oe D (some od) := by
  subst ed
  obtain ⟨ha, _⟩ := I.pin (a, oe) (List.mem_append_left _ List.mem_cons_self)
  obtain ⟨vs, hd⟩ := hf
  have hx : ObjOk X.prog X.w H s.heap dd (.xd fs) := I.hok dd _ ea
  obtain ⟨mA, hns, hr⟩ := hx
  obtain ⟨od, ho, hl⟩ := lookIn_ns hns
  exact ⟨od, ha, hz.1, by unfold PySem.W.notCls; rw [hd] <;> rfl, by rw [hz.2]; exact ho⟩
theorem call_isET {a D : Addr} {oe : Obj} {cls : Value} {d : Option Addr} {pn : List (Addr × Obj)} (T : ExcC X.K D) (hz : Zc cls d oe) (hf : ∃ vs, oe.data = .fields vs) :
    CallR (X.suite a ((a, oe) :: pn)) (.builtin "isinstance") (fun xs H Q => cls = .ref D ∧ (∃ dd fs, d = some dd ∧ H dd = some (.xd fs)) ∧ rIsET X.K D a xs H Q) := by
  intro pins s σ H xs us Q I r h
  obtain ⟨ec, ⟨dd, fs, ed, ea⟩, tp, cs, ws, b, rfl, hT, pc, e, q⟩ := h
  subst ec
  obtain ⟨u1, u2, rfl, r1, r2⟩ := vals2 r
  cases (show u2 = Value.ref tp from r2)
  cases (show u1 = Value.ref a from r1)
  obtain ⟨od, J⟩ := held_at I hz hf ed ea
  have isC : (PySem.W.clsIn X.K D).isSome = true := by
    obtain ⟨cd, hc, _⟩ := PySem.W.any_some T.hd
    rw [hc]
    rfl
  obtain ⟨_, its, rv, o, h1, h2, n, h3⟩ := (show ObjOk X.prog X.w H s.heap tp (.tup cs) from I.hok tp _ hT)
  have e3 := ClsV.all pc rv
  subst e3
  obtain ⟨oc, odd, dt, sl⟩ := o
  simp only at h2 h3
  subst h2 h3
  exact PySem.W.kia_tup (PySem.W.kitx_exc isC T.hg T.hk T.hs T.ha T.hn T.ht T.hm) I.kIn J h1 e (fun z => nomatch z) fun tk => ⟨.bl b, H, I.tok tk, rfl, q⟩
/-- what a def lets out that may raise, taken by a def that may raise the same -/
theorem passOn {E E2 : XK} (tk : Takes X (fun cls d _ H => E cls d H)) (hE : ∀ cls d H, E2 cls d H → E cls d H) : Passes (L2.CX X.prog X.w) X E2 := passes_call (W := fun cls d _ H => E cls d H) tk fun cls d _ H h => hE cls d H h
/-- a block that is never reached -/
def tNever : TS := fun _ _ _ => False
theorem pss_never {b : List Stmt} : PSs X b tNever := ⟨fun _ _ _ _ _ _ h => h.elim⟩
end
end Ow

/-! name = {k: v for ..} on one line; dicts whose keys are the texts of a list, in its order -/
namespace Ow
open PySem PySem.Spec PyProof.Rows L2
section
variable {X : Cx}
theorem ps_setDc {n : Nat} {y : Str} {yp : Pos} {kx vx tg src : Expr} {fs : List Expr} {sc : Scope} {own : List (Str × Nat)} {cp sp : Pos} {wi : TI} {g : TG} {tt : TT} {tk tv : TE}
    (cm : X.calm = true) (nn : X.N.Nodup) (hy : X.N[n]? = some y) (yl : X.env.scope.names.lookup y = some .local)
    (sw : swapsWith (.DictComp kx vx [⟨tg, src, fs, 0⟩] sc cp) (some (.Name y yp)) sp.line X.env = pure true)
    (hi : PI X tg src wi) (bk : BlkOk X.N X.env.scope sc own)
    (hg : ∀ (z : Shared) (G : Hp) (c : Addr) (l : List (Str × Addr)) (fp : List Addr), PG (X.blk z G sc (compEnvC sc l c X.env) fp) tg g)
    (ht : ∀ (z : Shared) (G : Hp) (c : Addr) (l : List (Str × Addr)) (fp : List Addr), PTs (X.blk z G sc (compEnvC sc l c X.env) fp) fs tt)
    (hk : ∀ (z : Shared) (G : Hp) (c : Addr) (l : List (Str × Addr)) (fp : List Addr), PE (X.blk z G sc (compEnvC sc l c X.env) fp) kx tk)
    (hv : ∀ (z : Shared) (G : Hp) (c : Addr) (l : List (Str × Addr)) (fp : List Addr), PE (X.blk z G sc (compEnvC sc l c X.env) fp) vx tv)
    (hs : ∀ x, foldedSetIterable src X.env x = pure x := by intro _; rfl) :
    PS X (.Assign [.Name y yp] (.DictComp kx vx [⟨tg, src, fs, 0⟩] sc cp) sp) (tAsg (tDc wi g tt tk tv (own.map (·.2))) (gName n)) := by
  refine ⟨fun pins z σ H D I q0 => ?_⟩
  rw [exec_Assign_Name_used _ _ _ _ sw]
  refine wpAny_bind (wpAny_standAt (wpAny_bind ?_))
  show wpAny _ X.A (do
    let _ ← comprehension (.DictComp kx vx [⟨tg, src, fs, 0⟩] sc cp) sc X.env (firstIterPos [⟨tg, src, fs, 0⟩] cp) newDict false (eval src X.env) (some (assign (.Name y yp) X.env))) _ _ z
  have q1 : tDc wi g tt tk tv (own.map (·.2)) σ H (fun x G => gName n x σ G D.nx) := q0
  refine wpAny_bind (thn (dc_core (Qf := fun _ s2 => SP X pins D .next s2) cm nn I hi bk hg ht hk hv hs q1
    fun L c s2 m G J q hn f => ?_) fun _ s2 hq => wpAny_pure (wpAny_pure hq))
  show wpAny _ _ (assign (.Name y yp) X.env (.ref L)) _ _ _
  refine wpAny_assign_Name (store_ok2 (v := V.ref L) J nn hy (.inl yl) rfl (fun s3 J3 ⟨a, sb, ha⟩ => ?_) (.inr yl))
  obtain ⟨f0, f1, f2, f3, f4, f5⟩ := f
  have ne : c ≠ a := by
    rcases ha with e | e
    · rw [e]; exact f1
    · exact fun e2 => f4 y a e e2.symm
  refine ⟨m, hn.sameBut sb ne, fun h3 sb3 => ?_⟩
  exact ⟨_, G, J3.turned (t' := s3.toks) (fun b o hb e => (sb3.2 b hb).trans e) f0 f1 f3 f4 f5, q⟩
theorem pi_tupK (K : PySem.W.Frag) {tg e : Expr} {te : TE} (he : PE X e te) (hK : X.K = K := by rfl) : PI X tg e (iTup K te) := by
  subst hK
  exact pi_tup he
theorem sw_trueD {kx vx : Expr} {gs : List Comprehension} {sc : Scope} {cp yp : Pos} {y : Str} {l : Nat} {env : Env} (hk : env.scope.kind = .function) (hy : env.scope.names.lookup y = some .local)
    (hl : (yp.line == cp.line) = true) (ha : (sc.names.any fun (n, k) => n == y && (k == .local || k == .cell)) = false) :
    swapsWith (.DictComp kx vx gs sc cp) (some (.Name y yp)) l env = pure true := by
  have k1 : env.kindOf y = some .local := hy
  have k2 : env.blockKind = .function := by
    unfold Env.blockKind
    rw [hk]
    rfl
  unfold swapsWith
  simp only [k2, k1, ha, Expr.pos, hl]
  rfl
end
/-- a comprehension within a comprehension: the outer one's scope as it is while it runs -/
theorem rel_look {env : Env} {y : Str} {k : NameKind} (hk : k = .cell ∨ k = .free) : ∀ {l : List (Str × NameKind)}, l.lookup y = some k →
    (l.map fun (m, j) => if (j == NameKind.free && env.scope.kind == .function && env.kindOf m == some .cell) then (m, NameKind.cell) else (m, j)).lookup y = some .cell ∨
    (l.map fun (m, j) => if (j == NameKind.free && env.scope.kind == .function && env.kindOf m == some .cell) then (m, NameKind.cell) else (m, j)).lookup y = some .free
  | [], h => by simp at h
  | (m, j) :: l, h => by
    have ih := @rel_look env y k hk l
    rw [List.map_cons]
    by_cases e : y = m
    · subst e
      have ej : j = k := by simpa [List.lookup] using h
      subst ej
      dsimp only
      split
      · left
        simp [List.lookup]
      · rcases hk with rfl | rfl
        · left
          simp [List.lookup]
        · right
          simp [List.lookup]
    · have ne : (y == m) = false := by simpa using e
      have h2 : l.lookup y = some k := by simpa [List.lookup, ne] using h
      dsimp only
      split <;> simpa [List.lookup, ne] using ih h2
theorem blk_rel {N : List Str} {sc scope : Scope} {own : List (Str × Nat)} {env : Env} (h : BlkOk N sc scope own) : BlkOk N (relabel sc env) scope own :=
  ⟨h.kind, h.uniq, h.ix, fun y hy e => by
    rcases h.free y hy e with z | z
    · exact rel_look (.inl rfl) z
    · exact rel_look (.inr rfl) z, h.own⟩
/-! ### a row: f j under the j-th text -/
def kvT (f : Nat → V) (ws : List Str) (t : Nat) : List (Key × V) := (List.range t).map fun j => (.inr (ws.getD j ""), f j)
theorem kvT_len (f : Nat → V) (ws : List Str) (t : Nat) : (kvT f ws t).length = t := by
  unfold kvT
  rw [List.length_map, List.length_range]
theorem kvT_succ (f : Nat → V) (ws : List Str) (t : Nat) : kvT f ws (t + 1) = kvT f ws t ++ [(.inr (ws.getD t ""), f t)] := by
  unfold kvT
  rw [List.range_succ, List.map_append]
  rfl
theorem getD_inj {ws : List Str} (nd : ws.Nodup) {i j : Nat} (hi : i < ws.length) (hj : j < ws.length) (e : ws.getD i "" = ws.getD j "") : i = j := by
  rw [List.getD_eq_getElem?_getD, List.getD_eq_getElem?_getD, List.getElem?_eq_getElem hi, List.getElem?_eq_getElem hj] at e
  exact (List.getElem_inj nd).mp e
theorem valV_app {κ : Type} [DecidableEq κ] {a b : List (κ × V)} {k : κ} (h : valV a k = none) : valV (a ++ b) k = valV b k := by
  induction a with
  | nil => rfl
  | cons p r ih =>
    by_cases e : p.1 = k
    · rw [valV_pos e] at h
      cases h
    · rw [valV_neg e] at h
      rw [List.cons_append, valV_neg e, ih h]
theorem valV_app1 {κ : Type} [DecidableEq κ] {a b : List (κ × V)} {k : κ} {v : V} (h : valV a k = some v) : valV (a ++ b) k = some v := by
  induction a with
  | nil => cases h
  | cons p r ih =>
    by_cases e : p.1 = k
    · rw [List.cons_append, valV_pos e]
      rw [valV_pos e] at h
      exact h
    · rw [List.cons_append, valV_neg e]
      rw [valV_neg e] at h
      exact ih h
theorem kvT_no {f : Nat → V} {ws : List Str} (nd : ws.Nodup) : ∀ {t j : Nat}, t ≤ j → j < ws.length → valV (kvT f ws t) (.inr (ws.getD j "") : Key) = none
  | 0, _, _, _ => rfl
  | t + 1, j, h, hj => by
    rw [kvT_succ, valV_app (kvT_no nd (by omega) hj)]
    have ne : ¬ ((.inr (ws.getD t "") : Key) = .inr (ws.getD j "")) := fun e => by
      have := getD_inj nd (by omega) hj (Sum.inr.inj e)
      omega
    rw [valV_neg ne]
    rfl
theorem kvT_val {f : Nat → V} {ws : List Str} (nd : ws.Nodup) : ∀ {t j : Nat}, j < t → t ≤ ws.length → valV (kvT f ws t) (.inr (ws.getD j "") : Key) = some (f j)
  | 0, _, h, _ => absurd h (Nat.not_lt_zero _)
  | t + 1, j, h, ht => by
    rw [kvT_succ]
    by_cases e : j = t
    · subst e
      rw [valV_app (kvT_no nd (Nat.le_refl _) (by omega)), valV_pos rfl]
    · exact valV_app1 (kvT_val nd (by omega) (by omega))
theorem kvT_put_new {f : Nat → V} {ws : List Str} (nd : ws.Nodup) {t : Nat} (ht : t < ws.length) : putK (kvT f ws t) (.inr (ws.getD t "") : Key) (f t) = kvT f ws (t + 1) := by
  rw [putK_new _ (kvT_no nd (Nat.le_refl _) ht), kvT_succ]
def setF (f : Nat → V) (j : Nat) (v : V) : Nat → V := fun i => if i = j then v else f i
theorem kvT_put {f : Nat → V} {ws : List Str} (nd : ws.Nodup) {t j : Nat} (hj : j < t) (ht : t ≤ ws.length) (v : V) : putK (kvT f ws t) (.inr (ws.getD j "") : Key) v = kvT (setF f j v) ws t := by
  have any : ((kvT f ws t).any fun kv => decide (kv.1 = (.inr (ws.getD j "") : Key))) = true := by
    rw [valV_any, kvT_val nd hj ht]
    rfl
  unfold putK
  rw [if_pos any]
  unfold kvT
  rw [List.map_map]
  refine List.map_congr_left fun i hi => ?_
  have hi2 : i < t := List.mem_range.mp hi
  show (if (.inr (ws.getD i "") : Key) = .inr (ws.getD j "") then _ else _) = _
  by_cases e : i = j
  · subst e
    rw [if_pos rfl]
    show _ = ((.inr (ws.getD i "") : Key), setF f i v i)
    unfold setF
    rw [if_pos rfl]
  · have ne : ¬ ((.inr (ws.getD i "") : Key) = .inr (ws.getD j "")) := fun z => e (getD_inj nd (by omega) (by omega) (Sum.inr.inj z))
    rw [if_neg ne]
    show _ = ((.inr (ws.getD i "") : Key), setF f j v i)
    unfold setF
    rw [if_neg e]
theorem kvT_congr {f g : Nat → V} {ws : List Str} {t : Nat} (h : ∀ j, j < t → f j = g j) : kvT f ws t = kvT g ws t := by
  unfold kvT
  exact List.map_congr_left fun i hi => by rw [h i (List.mem_range.mp hi)]
end Ow

namespace Ow
open PySem PySem.Spec PyProof.Rows L2
section
variable {X : Cx} {CX : CXT} {k : Nat} {C f : Addr} {fd : FuncData} {ps : List Str} {sp : Sp} {E : XK}
/-- len(a) by the own __len__ -/
theorem call_lenOwn (F : FnOk X.prog X.w X.K X.mg X.base CX k f fd ps sp) (hr : Room (k + 1) X.A) (hb : Binds X.K fd ps []) (hx : Passes CX X E) (hs : PySem.W.findIn X.K (.ref C) "__len__" = some (some (.ref f))) (hf : PySem.W.isFn X.K (.ref f) = true) :
    CallR X (.builtin "len") (fun xs H Q => ∃ a dx fs, xs = [.ref a] ∧ H a = some (.ins C dx fs) ∧ sp [.ref a] H (fun v G => ∃ n : Nat, v = .int n ∧ n ≤ 4000000 ∧ Q (.int n) G) E) := by
  intro pins s σ H xs us Q I r h
  obtain ⟨a, dx, fs, rfl, ea, q⟩ := h
  obtain ⟨ox, od, J⟩ := ins_inst I ea
  have rr : Vals [V.ref a] us := r
  obtain ⟨m, fr⟩ := I.fr
  cases r with
  | cons r1 rn =>
    cases rn
    cases (show _ = Value.ref a from r1)
    refine PySem.W.len_K fr I.ok.mod.kin J hs hf ?_
    refine wpAny_mono (run_at (A := X.A.in1) rfl F hr.in1 hb hx I rr q) (fun u s2 z => ?_) fun _ _ z => z
    obtain ⟨v, G, J2, rv, n, ev, hn, q2⟩ := z
    subst ev
    obtain ⟨t, e⟩ := (show ∃ t, u = Value.int n t from rv)
    subst e
    have e63 : (2 : Int) ^ 63 = 9223372036854775808 := by decide
    exact ⟨⟨by omega, by omega⟩, ⟨.int n, G, J2.tok _, ⟨_, rfl⟩, q2⟩⟩
end
end Ow

/-! t[::-1] of a tuple -/
namespace Ow
open PySem PySem.Spec PyProof.Rows L2 HT
section
variable {prog : Program} {w : World} {A : Around} {E : Value → Shared → Prop} {s : Shared}
theorem sliceApplied_back {sl : Addr} {vl vu vt : Value} {n : Nat} {Q : Int × Int × Nat → Shared → Prop} (hs : s.heap.IsSliceOf sl vl vu vt) (pl : IsPart vl none) (pu : IsPart vu none) (pt : IsPart vt (some (-1)))
    (h : Q ((n : Int) - 1, -1, n) s) : wpAny (model prog w) A (Builtin.Slice.sliceApplied (.ref sl) (pure (n : Int))) Q E s := by
  obtain ⟨os, hos, hcs, hds⟩ := id hs
  unfold Builtin.Slice.sliceApplied Builtin.Slice.sliceFields
  refine wpAny_bind (wpAny_bind (wpAny_field hos hds (x := vl) rfl (wpAny_bind (wpAny_field hos hds (x := vu) rfl (wpAny_bind (wpAny_field hos hds (x := vt) rfl (wpAny_pure ?_)))))))
  refine wpAny_bind (slicePart_ pt ?_)
  show wpAny _ _ (if ((-1 : Int) == 0) = true then _ else _) _ _ s
  rw [if_neg (by decide)]
  refine wpAny_bind (slicePart_ pl (wpAny_bind (slicePart_ pu (wpAny_bind (wpAny_pure ?_)))))
  have e : Builtin.Slice.sliceAdjust none none (-1) (n : Int) = ((n : Int) - 1, -1) := by
    unfold Builtin.Slice.sliceAdjust
    have h1 : ((-1 : Int) < 0) := by omega
    simp only [h1, if_true]
  have e2 : Builtin.Slice.slicePlaces ((n : Int) - 1) (-1) (-1) = n := by
    unfold Builtin.Slice.slicePlaces
    have h1 : ¬ ((-1 : Int) > 0) := by omega
    simp only [h1, if_false]
    split
    · simp
    · omega
  show wpAny _ _ (match Builtin.Slice.sliceAdjust none none (-1) (n : Int) with | (lo, hi) => pure (lo, (-1 : Int), Builtin.Slice.slicePlaces lo hi (-1))) _ _ s
  rw [e]
  show wpAny _ _ (pure ((n : Int) - 1, (-1 : Int), Builtin.Slice.slicePlaces ((n : Int) - 1) (-1) (-1))) _ _ s
  rw [e2]
  exact wpAny_pure h
theorem pick_back (xs : Array Value) : ((List.range xs.size).filterMap fun (m : Nat) => xs[(((xs.size : Int) - 1) + (m : Int) * (-1)).toNat]?).toArray = xs.toList.reverse.toArray := by
  congr 1
  have e : ∀ m ∈ List.range xs.size, xs[(((xs.size : Int) - 1) + (m : Int) * (-1)).toNat]? = some (xs.toList.reverse.getD m .none) := fun m hm => by
    have hm := List.mem_range.mp hm
    have e1 : (((xs.size : Int) - 1) + (m : Int) * (-1)).toNat = xs.size - 1 - m := by omega
    rw [e1, List.getD_eq_getElem?_getD, List.getElem?_reverse (by simpa using hm)]
    rw [Array.length_toList, Array.getElem?_toList, Array.getElem?_eq_getElem (show xs.size - 1 - m < xs.size by omega)]
    rfl
  have e2 : ∀ l : List Nat, (∀ m ∈ l, m ∈ List.range xs.size) → (l.filterMap fun (m : Nat) => xs[(((xs.size : Int) - 1) + (m : Int) * (-1)).toNat]?) = l.map fun m => xs.toList.reverse.getD m .none := by
    intro l
    induction l with
    | nil => intro _; rfl
    | cons m l ih =>
      intro h
      rw [List.filterMap_cons, e m (h m List.mem_cons_self), ih fun k hk => h k (List.mem_cons_of_mem _ hk)]
      rfl
  rw [e2 _ fun m h => h]
  refine List.ext_getElem (by simp) fun i h1 h2 => ?_
  rw [List.getElem_map, List.getElem_range, List.getD_eq_getElem?_getD, List.getElem?_eq_getElem h2]
  rfl
theorem getItem_tuple_back {t sl : Addr} {items : Array Value} {vl vu vt : Value} {Q : Value → Shared → Prop} (ht : IsTup s.heap t items) (hs : s.heap.IsSliceOf sl vl vu vt) (pl : IsPart vl none) (pu : IsPart vu none) (pt : IsPart vt (some (-1)))
    (h : Q (.ref s.heap.objs.size) { s with heap := s.heap.push { cls := .type "tuple", data := .seq items.toList.reverse.toArray } })
    (hsz : items.size ≤ sizeLine) : wpAny (model prog w) A (getItem (.ref t) (.ref sl)) Q E s := by
  have htake : sizeOk (.seq items.toList.reverse.toArray) := by
    show items.toList.reverse.toArray.size ≤ sizeLine
    rw [List.size_toArray, List.length_reverse, Array.length_toList]
    omega
  obtain ⟨os, hos, hcs, hds⟩ := id hs
  have hTs : s.TypeIs (.ref sl) "slice" := ⟨os, hos, hcs⟩
  unfold getItem
  try with_reducible refine wpAny_holding ?_
  first | refine wpAny_bind (wpAny_pure ?_) | skip
  refine wpAny_bind (wpAny_sequenceKey ht.typeIs (by decide) ?_)
  refine wpAny_bind (wpAny_callSpecial?_slot (name := Str.ofString "__getitem__") ht.typeIs PyProof.Rows.slot_tuple_getitem
    (wpAny_call_entry PyProof.Rows.slot_tuple_getitem ht.typeIs entry_tuple_getitem ?_ (args_tuple_getitem _ _)))
  show wpAny _ _ (Builtin.Tuple.tupleItemsOf (.ref t) >>= _) _ _ s
  refine wpAny_bind (tupleItemsOf_ ht ?_)
  refine wpAny_bind (wpAny_typeOf hTs ?_)
  rw [if_pos (by decide)]
  refine wpAny_bind (sliceApplied_back hs pl pu pt ?_)
  have hno : ¬ ((((items.size : Int) - 1) == 0 && (-1 : Int) == 1 && items.size == items.size) = true) := by
    intro q
    rw [Bool.and_eq_true, Bool.and_eq_true] at q
    exact absurd q.1.2 (by decide)
  show wpAny _ _ (if (((items.size : Int) - 1) == 0 && (-1 : Int) == 1 && items.size == items.size) = true then _ else _) _ _ s
  rw [if_neg hno, pick_back]
  first
    | exact wpAny_bind (m := Builtin.Tuple.tupleExact _) (wpAny_newObj_type (wpAny_pure ⟨_, rfl, wpAny_pure h⟩) htake)
    | exact wpAny_bind (m := Builtin.Tuple.tupleExact _) (wpAny_newObj_type (wpAny_bind (wpAny_pure (wpAny_pure ⟨_, rfl, wpAny_pure h⟩))) htake)
    | exact wpAny_bind (wpAny_bind (m := Builtin.Tuple.tupleExact _) (wpAny_newObj_type (wpAny_pure (wpAny_pure ⟨_, rfl, wpAny_pure h⟩)) htake))
    | exact wpAny_bind (wpAny_bind (m := Builtin.Tuple.tupleExact _) (wpAny_newObj_type (wpAny_pure ⟨_, rfl, wpAny_pure h⟩) htake))
end
section
variable {X : Cx}
def tRevT (K : PySem.W.Frag) (te : TE) : TE := fun σ H Q => te σ H fun x H1 => ∃ a xs, x = .ref a ∧ SqT K H1 a xs ∧ ∀ p, H1 p = none → Q (.ref p) (upd H1 p (.tup xs.reverse))
theorem pe_revT {e : Expr} {te : TE} {k : Nat} {p1 p2 p3 pos : Pos} (he : PE X e te) : PE X (.Subscript e (.Slice none none (some (.UnaryOp .USub (.Constant (.int 1) k p1) p2)) p3) pos) (tRevT X.K te) := by
  refine ⟨fun pins s σ H Q I h => ?_⟩
  refine Subscript_ (thn (he.run pins s σ H _ I h) fun v s1 ⟨x, H1, I1, r1, q1⟩ => ?_)
  obtain ⟨a, xs, ex, hx, q⟩ := q1
  subst ex
  cases r1
  have hst : PO X (some (.UnaryOp .USub (.Constant (.int 1) k p1) p2)) (tPart (tUn (rU fun i => .int (-i)) (tC (.int 1)))) := po_some (pe_un un_neg pe_int)
  refine wpAny_Slice (thn (po_none.run pins s1 σ H1 (fun o H2 => o = none ∧ H2 = H1) I1 ⟨rfl, rfl⟩) fun vl s2 ⟨l, H2, I2, pl, el, e2⟩ => ?_)
  subst el e2
  refine thn (po_none.run pins s2 σ H2 (fun o H3 => o = none ∧ H3 = H2) I2 ⟨rfl, rfl⟩) fun vu s3 ⟨u, H3, I3, pu, eu, e3⟩ => ?_
  subst eu e3
  refine thn (hst.run pins s3 σ H3 (fun o H4 => o = some (-1) ∧ H4 = H3) I3 ⟨1, rfl, -1, rfl, rfl, rfl⟩) fun vs s4 ⟨o, H4, I4, ps, eo, e4⟩ => ?_
  subst eo e4
  have I5 : Inv X pins σ H4 { s4 with heap := s4.heap.push { cls := .type "slice", data := .fields #[vl, vu, vs] } } := I4.kept (t' := s4.toks) fun b ob q => Heap.get?_push_of_some _ q
  obtain ⟨its, r, ht, hz⟩ := I5.tuple hx
  have hlen := r.length
  show wpAny (model X.prog X.w) X.A (subscriptTail e (.Slice none none (some (.UnaryOp .USub (.Constant (.int 1) k p1) p2)) p3) (.ref a) (.ref s4.heap.objs.size)) (EP X pins σ Q) X.xe { s4 with heap := s4.heap.push { cls := .type "slice", data := .fields #[vl, vu, vs] } }
  refine tail_any (ops := [.ref a, .ref s4.heap.objs.size]) ht.typeIs (PyProof.Rows.slot_tuple_getitem.lookup) ?_ (by with_unfolding_all rfl)
  refine getItem_tuple_back ht (Heap.IsSliceOf.new _ vl vu vs) pl pu ps ?_ (by rw [List.size_toArray]; omega)
  have er : its.toArray.toList.reverse.toArray = its.reverse.toArray := rfl
  rw [er]
  refine ⟨.ref _, _, I5.laid (t' := s4.toks) (o := .tup xs.reverse) (fun b ob q => Heap.get?_push_of_some _ q) (Nat.le_refl _) ?_, rfl, q _ (I5.hok.fresh (Nat.le_refl _))⟩
  exact ⟨by rw [List.length_reverse]; exact hz, _, r.reverse, IsTup.new _ _⟩
end
end Ow

namespace Tg
open PySem L2 Ow
abbrev pTuS : Stmt := top 17
abbrev pForm : Stmt := top 18
abbrev pPlaces : Stmt := top 19
abbrev pMates : Stmt := top 20
abbrev pNear : Stmt := top 21
abbrev pJoined : Stmt := top 22
structure TxtP (mg : Str → Option Value) : Prop where
  b_isinstance : mg "isinstance" = none
  b_tuple : mg "tuple" = none
  b_str : mg "str" = none
  b_int : mg "int" = none
  b_bool : mg "bool" = none
  b_len : mg "len" = none
  b_all : mg "all" = none
  b_enumerate : mg "enumerate" = none
  b_list : mg "list" = none
  b_range : mg "range" = none
  b_set : mg "set" = none
/-! ### what is asked of values -/
def isStrD : PyData → Bool
  | .str _ => true
  | _ => false
def isTupD : PyData → Bool
  | .tuple _ => true
  | _ => false
def isIntB : PyData → Bool
  | .int _ => true
  | .bool _ => true
  | _ => false
def isBoolD : PyData → Bool
  | .bool _ => true
  | _ => false
def isTupS : PyData → Bool
  | .tuple ds => ds.all isStrD
  | _ => false
def isRopeD : PyData → Bool
  | .tuple [a, b, c] => isStrD a && isStrD b && (isIntB c && !isBoolD c)
  | _ => false
def ropesD : PyData → Bool
  | .tuple ds => ds.all isRopeD
  | _ => false
theorem k_tup (K : PySem.W.Frag) : ∀ d : PyData, PySem.W.kitOne K (.type (tyOf d)) (.type "tuple") = some (isTupD d)
  | .none => (kit_ty (by decide +kernel) : PySem.W.kitOne K (.type "NoneType") (.type "tuple") = some false)
  | .bool _ => (kit_ty (by decide +kernel) : PySem.W.kitOne K (.type "bool") (.type "tuple") = some false)
  | .int _ => (kit_ty (by decide +kernel) : PySem.W.kitOne K (.type "int") (.type "tuple") = some false)
  | .str _ => (kit_ty (by decide +kernel) : PySem.W.kitOne K (.type "str") (.type "tuple") = some false)
  | .list _ => (kit_ty (by decide +kernel) : PySem.W.kitOne K (.type "list") (.type "tuple") = some false)
  | .tuple _ => (kit_ty (by decide +kernel) : PySem.W.kitOne K (.type "tuple") (.type "tuple") = some true)
  | .dict _ => (kit_ty (by decide +kernel) : PySem.W.kitOne K (.type "dict") (.type "tuple") = some false)
theorem k_str (K : PySem.W.Frag) : ∀ d : PyData, PySem.W.kitOne K (.type (tyOf d)) (.type "str") = some (isStrD d)
  | .none => (kit_ty (by decide +kernel) : PySem.W.kitOne K (.type "NoneType") (.type "str") = some false)
  | .bool _ => (kit_ty (by decide +kernel) : PySem.W.kitOne K (.type "bool") (.type "str") = some false)
  | .int _ => (kit_ty (by decide +kernel) : PySem.W.kitOne K (.type "int") (.type "str") = some false)
  | .str _ => (kit_ty (by decide +kernel) : PySem.W.kitOne K (.type "str") (.type "str") = some true)
  | .list _ => (kit_ty (by decide +kernel) : PySem.W.kitOne K (.type "list") (.type "str") = some false)
  | .tuple _ => (kit_ty (by decide +kernel) : PySem.W.kitOne K (.type "tuple") (.type "str") = some false)
  | .dict _ => (kit_ty (by decide +kernel) : PySem.W.kitOne K (.type "dict") (.type "str") = some false)
theorem k_int (K : PySem.W.Frag) : ∀ d : PyData, PySem.W.kitOne K (.type (tyOf d)) (.type "int") = some (isIntB d)
  | .none => (kit_ty (by decide +kernel) : PySem.W.kitOne K (.type "NoneType") (.type "int") = some false)
  | .bool _ => (kit_ty (by decide +kernel) : PySem.W.kitOne K (.type "bool") (.type "int") = some true)
  | .int _ => (kit_ty (by decide +kernel) : PySem.W.kitOne K (.type "int") (.type "int") = some true)
  | .str _ => (kit_ty (by decide +kernel) : PySem.W.kitOne K (.type "str") (.type "int") = some false)
  | .list _ => (kit_ty (by decide +kernel) : PySem.W.kitOne K (.type "list") (.type "int") = some false)
  | .tuple _ => (kit_ty (by decide +kernel) : PySem.W.kitOne K (.type "tuple") (.type "int") = some false)
  | .dict _ => (kit_ty (by decide +kernel) : PySem.W.kitOne K (.type "dict") (.type "int") = some false)
theorem k_bool (K : PySem.W.Frag) : ∀ d : PyData, PySem.W.kitOne K (.type (tyOf d)) (.type "bool") = some (isBoolD d)
  | .none => (kit_ty (by decide +kernel) : PySem.W.kitOne K (.type "NoneType") (.type "bool") = some false)
  | .bool _ => (kit_ty (by decide +kernel) : PySem.W.kitOne K (.type "bool") (.type "bool") = some true)
  | .int _ => (kit_ty (by decide +kernel) : PySem.W.kitOne K (.type "int") (.type "bool") = some false)
  | .str _ => (kit_ty (by decide +kernel) : PySem.W.kitOne K (.type "str") (.type "bool") = some false)
  | .list _ => (kit_ty (by decide +kernel) : PySem.W.kitOne K (.type "list") (.type "bool") = some false)
  | .tuple _ => (kit_ty (by decide +kernel) : PySem.W.kitOne K (.type "tuple") (.type "bool") = some false)
  | .dict _ => (kit_ty (by decide +kernel) : PySem.W.kitOne K (.type "dict") (.type "bool") = some false)
section
variable {X : Cx}
theorem call_isiB (K : PySem.W.Frag) (hK : X.K = K := by rfl) : CallR X (.builtin "isinstance") (rIsi K) := by
  subst hK
  exact call_isi
end
def Lim (d : PyData) : Prop := wt d ≤ 4000000
theorem Lim.len {ds : List PyData} (h : Lim (.tuple ds)) : ds.length ≤ 2000000 := by
  have h1 : wtA ds + 10 ≤ 4000000 := h
  have := wtA_len ds
  omega
theorem Lim.item {ds : List PyData} {d : PyData} (h : Lim (.tuple ds)) (hd : d ∈ ds) : Lim d := by
  have h1 : wtA ds + 10 ≤ 4000000 := h
  have := wtA_mem hd
  show wt d ≤ 4000000
  omega
theorem small2m {n : Nat} (h : n ≤ 2000000) : n < sizeLine := by
  rw [sizeLine_eq]
  omega
section
variable {P : Program} {w : World} {K : PySem.W.Frag} {mg : Str → Option Value} {base : Heap}
def spTuS : Sp := fun vs H Q _ => ∃ d v, vs = [v] ∧ Vd H d v ∧ Lim d ∧ ∀ H', Same H H' → Q (.bl (isTupS d)) H'
theorem scTuS : FnScope ["value", "item"] ["value"] (defScope pTuS) := ⟨rfl, rfl, rfl, by decide +kernel, rfl, by decide +kernel, by decide +kernel⟩
theorem ok_TuS {f : Addr} {fd : FuncData} (F : Fun K "is_tuple_of_strings" "is_tuple_of_strings" pTuS f fd) (T : TxtP mg) : FnOk P w K mg base CX0 1 f fd ["value"] spTuS := by
  refine F.ok scTuS (fun vs H Q E h => ?_) (fun cdv A outer s H vs Q E hr h => ?_)
  · obtain ⟨d, v, rfl, _⟩ := h
    rfl
  · obtain ⟨d, v, rfl, hv, hl, k⟩ := h
    have nd := scTuS.nd
    refine ⟨_, (pss_one (ps_ret (pe_and (pe_callB call_isi (by rfl) T.b_isinstance (by decide +kernel) (pa_cons (pv 0) (pa_cons (pe_bltn (v := .ty "tuple") (by rfl) T.b_tuple (by decide +kernel) rfl) pa_nil)))
      (pe_one (pe_callB (cr_all rfl) (by rfl) T.b_all (by decide +kernel) (pa_cons (pe_lc (own := [("item", 1)]) (g := gName 1) rfl nd (pi_tup (pv 0)) (blkOk_by (own := [("item", 1)]) (N := ["value", "item"]) (sc := defScope pTuS) (by decide +kernel)) (fun _ _ _ _ _ => (pg_name (i := 1) nd rfl (.inl rfl))) (fun _ _ _ _ _ => pts_nil) (fun _ _ _ _ _ => (pe_callB (call_isiB K) (by rfl) T.b_isinstance (by decide +kernel) (pa_cons (pv 1) (pa_cons (pe_bltn (v := .ty "str") (by rfl) T.b_str (by decide +kernel) rfl) pa_nil))))) pa_nil)))))), ?_⟩
    refine ⟨_, rfl, _, .ty "tuple", _, _, _, rfl, .ty _, Vd.ty hv, k_tup K _, _, rfl, ?_⟩
    by_cases hd : isTupD d = true
    · rw [if_pos hd]
      cases d <;> simp [isTupD] at hd
      rename_i ds
      obtain ⟨a, xs, rfl, ea, hs⟩ := hv.tup
      refine ⟨_, rfl, a, rfl, ⟨_, SqT.of ea⟩, fun D hD => ?_⟩
      refine lc_tup (K := K) (a := a) (xs := xs) (fun t G => G D = some (.lst (((ds.take t).map isStrD).map V.bl)) ∧ Same H G) ⟨upd_same, same_upd (Same.refl _) hD⟩ (fun t G _ ⟨_, sG⟩ => SqT.of (sG _ _ ea)) ?_ ?_
      · rintro t x G hx ⟨e1, sG⟩
        have ht : t < ds.length := by
          rw [← hs.len]
          exact (List.getElem?_eq_some_iff.mp hx).1
        obtain ⟨d1, x1, hd1, hx1, v1⟩ := hs.at_ ht
        rw [hx] at hx1
        cases hx1
        refine ⟨rfl, _, rfl, _, .ty "str", _, _, _, rfl, .ty _, Vd.ty (v1.keep sG.tkept), k_str K _, _, e1, small2m (by rw [List.length_map, List.length_map, List.length_take]; have := hl.len; omega), ?_, same_upd sG hD⟩
        rw [upd_same, List.take_add_one, hd1, List.map_append, List.map_append]
        rfl
      · rintro G ⟨e1, sG⟩
        rw [hs.len, List.take_length] at e1
        refine ⟨D, _, rfl, SqL.of e1, ?_⟩
        have : (ds.map isStrD).all id = isTupS (.tuple ds) := by
          show _ = ds.all isStrD
          rw [List.all_map]
          rfl
        rw [this]
        exact k G sG
    · have hd2 : isTupD d = false := by simpa using hd
      rw [if_neg hd]
      have : isTupS d = false := by cases d <;> first | rfl | (simp [isTupD] at hd2)
      rw [← this]
      exact k H (Same.refl _)
end
end Tg

namespace Tg
open PySem L2 Ow
/-! ### names -/
def okCp (c : Nat) : Bool := decide (97 ≤ c) && decide (c ≤ 122)
def isNmS (x : Str) : Bool := decide (1 ≤ x.length) && decide (x.length ≤ 6) && x.cps.toList.all okCp
theorem cp_table : ∀ c : Fin 128, (Unicode.isAlpha c.val && !(Unicode.isUpper c.val || Unicode.isTitle c.val)) = okCp c.val ∧ (okCp c.val = true → Unicode.isLower c.val = true) := by decide +kernel
theorem all_and {l : List Nat} {p q : Nat → Bool} : l.all (fun c => p c && q c) = (l.all p && l.all q) := by
  induction l with
  | nil => rfl
  | cons c l ih =>
    simp only [List.all_cons, ih]
    cases p c <;> cases q c <;> cases l.all p <;> cases l.all q <;> rfl
theorem low_iff (l : List Nat) : (l.all (fun c => decide (c < 128)) && (decide (0 < l.length) && l.all Unicode.isAlpha) && (l.any Unicode.isLower && !l.any fun c => Unicode.isUpper c || Unicode.isTitle c)) = (decide (0 < l.length) && l.all okCp) := by
  by_cases h1 : l.all (fun c => decide (c < 128)) = true
  · rw [h1, Bool.true_and]
    have tab : ∀ c ∈ l, (Unicode.isAlpha c && !(Unicode.isUpper c || Unicode.isTitle c)) = okCp c ∧ (okCp c = true → Unicode.isLower c = true) := fun c hc => by
      have := List.all_eq_true.mp h1 c hc
      exact cp_table ⟨c, by simpa using this⟩
    have e1 : (l.all Unicode.isAlpha && !l.any fun c => Unicode.isUpper c || Unicode.isTitle c) = l.all okCp := by
      rw [show (!l.any fun c => Unicode.isUpper c || Unicode.isTitle c) = l.all (fun c => !(Unicode.isUpper c || Unicode.isTitle c)) from List.not_any_eq_all_not, ← all_and]
      refine Bool.eq_iff_iff.mpr ⟨fun h => List.all_eq_true.mpr fun c hc => ?_, fun h => List.all_eq_true.mpr fun c hc => ?_⟩
      · rw [← (tab c hc).1]
        exact List.all_eq_true.mp h c hc
      · rw [(tab c hc).1]
        exact List.all_eq_true.mp h c hc
    cases l with
    | nil => rfl
    | cons c cs =>
      have e0 : decide (0 < (c :: cs).length) = true := by simp
      rw [e0, Bool.true_and, Bool.true_and, ← e1]
      cases h2 : ((c :: cs).all Unicode.isAlpha && !(c :: cs).any fun c => Unicode.isUpper c || Unicode.isTitle c) with
      | true =>
        obtain ⟨a1, a2⟩ := Bool.and_eq_true_iff.mp h2
        have a3 := e1.symm.trans h2
        have : (c :: cs).any Unicode.isLower = true := List.any_eq_true.mpr ⟨c, List.mem_cons_self, (tab c List.mem_cons_self).2 (List.all_eq_true.mp a3 c List.mem_cons_self)⟩
        rw [a1, a2, this]
        rfl
      | false =>
        cases a : (c :: cs).all Unicode.isAlpha
        · rfl
        · rw [a] at h2
          rw [Bool.true_and] at h2
          rw [h2, Bool.and_false]
          rfl
  · have h2 : l.all (fun c => decide (c < 128)) = false := by simpa using h1
    rw [h2, Bool.false_and, Bool.false_and]
    have h3 : l.all okCp = false := by
      cases h : l.all okCp
      · rfl
      · exfalso
        apply h1
        refine List.all_eq_true.mpr fun c hc => ?_
        have := List.all_eq_true.mp h c hc
        unfold okCp at this
        simp at this
        simp
        omega
    rw [h3, Bool.and_false]
theorem name_is (x : Str) (h : ¬ 6 < x.length) : (Txt.isascii x && (Txt.isalpha x && Txt.islower x)) = isNmS x := by
  have h1 := low_iff x.cps.toList
  have e1 : Txt.isascii x = x.cps.toList.all (fun c => decide (c < 128)) := by unfold Txt.isascii; exact Array.all_toList.symm
  have e2 : Txt.isalpha x = (decide (0 < x.cps.toList.length) && x.cps.toList.all Unicode.isAlpha) := by
    unfold Txt.isalpha
    rw [Array.all_toList]
    rfl
  have e3 : Txt.islower x = (x.cps.toList.any Unicode.isLower && !x.cps.toList.any fun c => Unicode.isUpper c || Unicode.isTitle c) := by
    unfold Txt.islower
    rw [Array.any_toList, Array.any_toList]
  rw [e1, e2, e3, ← Bool.and_assoc, h1]
  have l6 : decide (x.length ≤ 6) = true := decide_eq_true (by omega)
  unfold isNmS
  rw [l6, Bool.and_true]
  rfl
abbrev pIsName : Stmt := inClass (top 23) 1
def isNameD : PyData → Bool
  | .str x => isNmS x
  | _ => false
def spIsName : Sp := fun vs H Q _ => ∃ d v, vs = [v] ∧ Vd H d v ∧ Lim d ∧ Q (.bl (isNameD d)) H
theorem scIsName : FnScope ["value"] ["value"] (defScope pIsName) := ⟨rfl, rfl, rfl, by decide +kernel, rfl, by decide +kernel, by decide +kernel⟩
section
variable {P : Program} {w : World} {K : PySem.W.Frag} {mg : Str → Option Value} {base : Heap}
theorem ok_isName {f : Addr} {fd : FuncData} {t0 : Tok} (F : Fun K "is_name" "Tree.is_name" pIsName f fd) (T : TxtP mg) (gLN : mg "LONGEST_NAME" = some (.int 6 t0)) : FnOk P w K mg base CX0 1 f fd ["value"] spIsName := by
  refine F.ok scIsName (fun vs H Q E h => ?_) (fun cdv A outer s H vs Q E hr h => ?_)
  · obtain ⟨d, v, rfl, _⟩ := h
    rfl
  · obtain ⟨d, v, rfl, hv, hl, k⟩ := h
    have nd := scIsName.nd
    refine ⟨_, (pss_cons (ps_if (PW.pt (pw_or (pt_not (pt_val (pe_callB call_isi (by rfl) T.b_isinstance (by decide +kernel) (pa_cons (pv 0) (pa_cons (pe_bltn (v := .ty "str") (by rfl) T.b_str (by decide +kernel) rfl) pa_nil))))) (pw_or1 (pt_cmpR op_gt (pe_callB call_len_str (by rfl) T.b_len PySem.boot_len (pa_cons (pv 0) pa_nil)) (pe_glob (v := .int 6) rfl gLN ⟨_, rfl⟩) (nomark _)))))
        (pss_one (ps_ret pe_bl))
        pss_nil)
      (pss_one (ps_ret (pe_and (pe_bm0 PySem.F.plainAttrs_str PySem.F.slot_str_isascii PySem.F.type_str_isascii mt_isascii (pv 0)) (pe_and (pe_bm0 PySem.F.plainAttrs_str PySem.F.slot_str_isalpha PySem.F.type_str_isalpha mt_isalpha (pv 0)) (pe_one (pe_bm0 PySem.F.plainAttrs_str PySem.F.slot_str_islower PySem.F.type_str_islower mt_islower (pv 0)))))))), ?_⟩
    refine ⟨_, rfl, _, .ty "str", _, _, _, rfl, .ty _, Vd.ty hv, k_str K _, _, rfl, ?_⟩
    by_cases hd : isStrD d = true
    · rw [hd]
      refine iteF ?_
      cases d <;> simp [isStrD] at hd
      rename_i x
      cases hv.str
      have hx : x.length ≤ sizeLine := by
        have : 10 * x.length + 10 ≤ 4000000 := hl
        rw [sizeLine_eq]
        omega
      refine ⟨_, rfl, x, rfl, hx, _, _, rfl, rfl, _, rfl, ?_⟩
      refine ite2 (fun hn => ?_) (fun hn => ?_)
      · have h6 : 6 < x.length := by
          have z : (6 : Int) < x.length := by simpa using hn
          omega
        have : isNmS x = false := by
          unfold isNmS
          have : decide (x.length ≤ 6) = false := decide_eq_false (by omega)
          rw [this, Bool.and_false]
          rfl
        have k' : Q (.bl (isNmS x)) H := k
        rw [this] at k'
        exact k'
      · have h6 : ¬ 6 < x.length := by
          have z : (x.length : Int) ≤ 6 := by simpa using hn
          omega
        have k' : Q (.bl (isNmS x)) H := k
        rw [← name_is x h6] at k'
        try dsimp only [tNext]
        refine ⟨_, rfl, rfl, x, rfl, rfl, trivial, _, rfl, ?_⟩
        cases c1 : Txt.isascii x
        · rw [c1] at k'
          exact iteF k'
        · rw [c1] at k'
          refine iteT ?_
          refine ⟨_, rfl, rfl, x, rfl, rfl, trivial, _, rfl, ?_⟩
          cases c2 : Txt.isalpha x
          · rw [c2] at k'
            exact iteF k'
          · rw [c2] at k'
            refine iteT ?_
            exact ⟨_, rfl, rfl, x, rfl, rfl, trivial, k'⟩
    · have hd2 : isStrD d = false := by simpa using hd
      rw [hd2]
      have : isNameD d = false := by cases d <;> first | rfl | (simp [isStrD] at hd2)
      rw [this] at k
      exact iteT (iteT k)
end
end Tg

namespace Tg
open PySem L2 Ow
/-! ### NoTree, raised -/
def spI2x (C : Addr) (f g : Str) : Sp := fun vs H Q _ => ∃ (a : Addr) (x y : V), vs = [.ref a, x, y] ∧ H a = some (exo a C none) ∧ ∀ d, H d = none → d ≠ a → Q .non (upd (upd (upd H d (exd d [(f, x)])) a (exo a C (some d))) d (exd d [(g, y), (f, x)]))
abbrev pINoTree : Stmt := inClass (top 5) 0
theorem scINoTree : FnScope ["self", "word", "at"] ["self", "word", "at"] (defScope pINoTree) := ⟨rfl, rfl, rfl, by decide +kernel, rfl, by decide +kernel, by decide +kernel⟩
section
variable {P : Program} {w : World} {K : PySem.W.Frag} {mg : Str → Option Value} {base : Heap}
theorem ok_INoTree {C f : Addr} {fd : FuncData} (F : Fun K "__init__" "NoTree.__init__" pINoTree f fd) (T : OexC K C) (n1 : PySem.W.findIn K (.ref C) "word" = some none) (n2 : PySem.W.findIn K (.ref C) "at" = some none) : FnOk P w K mg base CX0 1 f fd ["self", "word", "at"] (spI2x C "word" "at") := by
  refine F.ok scINoTree (fun vs H Q E h => ?_) (fun cdv A outer s H vs Q E hr h => ?_)
  · obtain ⟨a, x, y, rfl, _⟩ := h
    rfl
  · obtain ⟨a, x, y, rfl, ea, k⟩ := h
    refine ⟨_, pss_cons (ps_ost (pv 0) (pv 1)) (pss_one (ps_ost (pv 0) (pv 2))), ?_⟩
    refine ⟨_, rfl, _, rfl, a, C, rfl, T, n1, .inl ⟨ea, fun d hd ne => ?_⟩⟩
    have e1 : (upd (upd H d (exd d [("word", x)])) a (exo a C (some d))) a = some (exo a C (some d)) := upd_same
    have e2 : (upd (upd H d (exd d [("word", x)])) a (exo a C (some d))) d = some (exd d [("word", x)]) := by rw [upd_ne ne, upd_same]
    refine ⟨_, rfl, _, rfl, a, C, rfl, T, n2, .inr ⟨d, _, e1, e2, (by show 1 ≤ 900; decide), ?_⟩⟩
    exact k d hd ne
end
/-- what a caller may know of a raised NoTree -/
def Told (C : Addr) (fs : List (Str × V)) (H : Hp) (E : XK) : Prop := ∀ d H', H d = none → Same H H' → H' d = some (.xd fs) → E (.ref C) (some d) H'
theorem Told.on {C : Addr} {fs : List (Str × V)} {H H1 : Hp} {E : XK} (t : Told C fs H E) (s : Same H H1) : Told C fs H1 E := fun d H' h1 h2 h3 => t d H' (s.free h1) (s.trans h2) h3
theorem mk_told {C : Addr} {f g : Str} {x y : V} {H : Hp} {E : XK} (k : Told C [(g, y), (f, x)] H E) : ∀ a, H a = none → spI2x C f g (.ref a :: ([x, y] ++ [])) (upd H a (exo a C none))
    (fun v H2 => v = .non ∧ ∃ (d : Addr) (fs : List (Str × V)), H2 a = some (exo a C (some d)) ∧ H2 d = some (exd d fs) ∧ H d = none ∧ E (.ref C) (some d) (upd (del H2 a) d (.xd fs))) (fun _ _ _ => False) := by
  intro a na
  refine ⟨a, x, y, rfl, upd_same, fun d hd ne => ⟨rfl, d, _, ?_, upd_same, ?_, ?_⟩⟩
  · rw [upd_ne ne.symm, upd_same]
  · rw [upd_ne ne] at hd
    exact hd
  · rw [upd_ne ne] at hd
    refine k d _ hd (fun b o e => ?_) upd_same
    have nb : b ≠ d := ne_of_none e hd
    have na2 : b ≠ a := ne_of_none e na
    rw [upd_ne nb, del_ne na2, upd_ne nb, upd_ne na2, upd_ne nb, upd_ne na2]
    exact e
/-- the class NoTree as raised -/
structure Rz (P : Program) (w : World) (K : PySem.W.Frag) (mg : Str → Option Value) (base : Heap) (C fI : Addr) (fdI : FuncData) : Prop where
  T : OexC K C
  iC : PySem.W.findIn K (.ref C) "__init__" = some (some (.ref fI))
  tI : PySem.W.typeIn K (.ref fI) = some (.type "function")
  F1 : FnOk P w K mg base CX0 1 fI fdI ["self", "word", "at"] (spI2x C "word" "at")
  b : Binds K fdI ["self", "word", "at"] []
  gm : mg "NoTree" = some (.ref C)
/-! ### what is due -/
def strOfD : PyData → Str
  | .str x => x
  | _ => ""
def intOfD : PyData → Int
  | .int i => i
  | _ => 0
def itemsD : PyData → List PyData
  | .tuple ds => ds
  | _ => []
def strsOf (d : PyData) : List Str := (itemsD d).map strOfD
theorem strs_back {d : PyData} (h : isTupS d = true) : d = .tuple ((strsOf d).map PyData.str) := by
  cases d <;> simp [isTupS] at h
  rename_i ds
  show _ = PyData.tuple ((ds.map strOfD).map PyData.str)
  congr 1
  induction ds with
  | nil => rfl
  | cons e es ih =>
    have he := h e List.mem_cons_self
    rw [List.map_cons, List.map_cons, ← ih fun x hx => h x (List.mem_cons_of_mem _ hx)]
    cases e <;> simp [isStrD] at he
    rfl
theorem find_hit {p : Nat → Bool} {n t : Nat} (ht : t < n) (h0 : ∀ j, j < t → p j = false) (h1 : p t = true) : (List.range n).find? p = some t := by
  rw [List.find?_range_eq_some]
  exact ⟨h1, List.mem_range.mpr ht, fun j hj => by rw [h0 j hj]; rfl⟩
theorem find_no {p : Nat → Bool} {n : Nat} (h0 : ∀ j, j < n → p j = false) : (List.range n).find? p = none := by
  rw [List.find?_range_eq_none]
  exact fun j hj => by rw [h0 j hj]; rfl
theorem vdA_strs {H : Hp} : ∀ {ws : List Str} {xs : List V}, VdA H (ws.map PyData.str) xs → xs = ws.map V.str
  | [], _, h => by unfold VdA at h; exact h
  | x :: ws, xs, h => by
    obtain ⟨v, r, e, h1, h2⟩ := h.uncons
    rw [e, h1.str, vdA_strs h2]
    rfl
theorem inV_strs (x : Str) (ws : List Str) : inV (V.str x) (ws.map V.str) = ws.contains x := by
  induction ws with
  | nil => rfl
  | cons y ws ih =>
    have : inV (V.str x) ((y :: ws).map V.str) = (eqV (V.str y) (V.str x) || inV (V.str x) (ws.map V.str)) := rfl
    rw [this, ih, List.contains_cons]
    congr 1
    show decide (y = x) = (x == y)
    by_cases c : y = x
    · subst c
      simp
    · have c2 : ¬ x = y := fun z => c z.symm
      simp [c, c2]
theorem flat_strs (ws : List Str) : (ws.map V.str).all flatV = true := by
  induction ws with
  | nil => rfl
  | cons y ws ih => simp [List.all_cons, flatV, ih]
end Tg

namespace Tg
open PySem L2 Ow ClX
/-! ### places and edges -/
abbrev Edg := Str × Str
def isEdgeD : PyData → Bool
  | .tuple [a, b] => isStrD a && isStrD b
  | _ => false
def edgesD : PyData → Bool
  | .tuple ds => ds.all isEdgeD
  | _ => false
def edgOf (d : PyData) : Edg := (strOfD ((itemsD d).getD 0 .none), strOfD ((itemsD d).getD 1 .none))
def edgsOf (d : PyData) : List Edg := (itemsD d).map edgOf
def edgD (r : Edg) : PyData := .tuple [.str r.1, .str r.2]
theorem not_edge {ds : List PyData} (h : ds.length ≠ 2) : isEdgeD (.tuple ds) = false := by
  match ds, h with
  | [], _ => rfl
  | [_], _ => rfl
  | [_, _], h => exact absurd rfl h
  | _ :: _ :: _ :: _, _ => rfl
theorem edg_back {d : PyData} (h : isEdgeD d = true) : d = edgD (edgOf d) := by
  cases d <;> try (simp [isEdgeD] at h; done)
  rename_i ds
  by_cases h3 : ds.length = 2
  · match ds, h3 with
    | [a, b], _ =>
      simp only [isEdgeD, Bool.and_eq_true] at h
      obtain ⟨h1, h2⟩ := h
      cases a <;> simp [isStrD] at h1
      cases b <;> simp [isStrD] at h2
      rfl
  · rw [not_edge h3] at h
    cases h
theorem edgs_back {d : PyData} (h : edgesD d = true) : d = .tuple ((edgsOf d).map edgD) := by
  cases d <;> simp [edgesD] at h
  rename_i ds
  show _ = PyData.tuple ((ds.map edgOf).map edgD)
  congr 1
  induction ds with
  | nil => rfl
  | cons e es ih =>
    have he := h e List.mem_cons_self
    rw [List.map_cons, List.map_cons, ← ih fun x hx => h x (List.mem_cons_of_mem _ hx), ← edg_back he]
def formT (W R : PyData) : Bool := isTupS W && edgesD R
def fsW (word : Str) (at_ : Int) : List (Str × V) := [("at", .int at_), ("word", .str word)]
section
variable {P : Program} {w : World} {K : PySem.W.Frag} {mg : Str → Option Value} {base : Heap} {C fI : Addr} {fdI : FuncData}
def spChkF (C : Addr) : Sp := fun vs H Q E => ∃ W R wv rv, vs = [wv, rv] ∧ Vd H W wv ∧ Vd H R rv ∧ Lim W ∧ Lim R ∧ (formT W R = true → ∀ H', Same H H' → Q .non H') ∧ (formT W R = false → Told C (fsW "form" 0) H E)
theorem scChkF : FnScope ["places", "edges", "edge", "one", "other"] ["places", "edges"] (defScope pForm) := ⟨rfl, rfl, rfl, by decide +kernel, rfl, by decide +kernel, by decide +kernel⟩
theorem ok_ChkF {f : Addr} {fd : FuncData} (F : Fun K "check_form" "check_form" pForm f fd) (T : TxtP mg) (W : Rz P w K mg base C fI fdI) (cTuS : Cal P w K mg base 1 "is_tuple_of_strings" ["value"] spTuS) :
    FnOk P w K mg base (L2.CX P w) 3 f fd ["places", "edges"] (spChkF C) := by
  refine F.okX scChkF (fun vs H Q E h => ?_) (fun cdv A outer s H vs Q E hr h => ?_)
  · obtain ⟨W, R, wv, rv, rfl, _⟩ := h
    rfl
  · obtain ⟨WD, RD, wv, rv, rfl, hw, hrv, lw, lr, kok, kno⟩ := h
    have nd := scChkF.nd
    refine ⟨_, (pss_cons (ps_if (PW.pt (pw_or (pt_not (pt_val (pe_cal cTuS (hr.mono (by decide)) (by rfl) (pa_cons (pv 0) pa_nil)))) (pw_or1 (pt_not (pt_val (pe_callB call_isi (by rfl) T.b_isinstance (by decide +kernel) (pa_cons (pv 1) (pa_cons (pe_bltn (v := .ty "tuple") (by rfl) T.b_tuple (by decide +kernel) rfl) pa_nil))))))))
        (pss_one (ps_raise rfl (takes_of rfl rfl rfl rfl) (pmk_oex W.T W.iC W.tI W.F1 (hr.mono (by decide)) W.b .nil pass0 (by rfl) W.gm (pa_cons pe_str (pa_cons pe_int pa_nil)))))
        pss_nil)
      (pss_one (ps_for (passes_of rfl) rfl (pi_tup (pv 1)) (pg_name (i := 2) nd rfl (.inl rfl))
        (pss_cons (ps_if (PW.pt (pw_or (pt_not (pt_val (pe_callB call_isi (by rfl) T.b_isinstance (by decide +kernel) (pa_cons (pv 2) (pa_cons (pe_bltn (v := .ty "tuple") (by rfl) T.b_tuple (by decide +kernel) rfl) pa_nil))))) (pw_or1 (pt_cmpR op_ne (pe_callB call_len_seq (by rfl) T.b_len PySem.boot_len (pa_cons (pv 2) pa_nil)) pe_int (nomark _)))))
            (pss_one (ps_raise rfl (takes_of rfl rfl rfl rfl) (pmk_oex W.T W.iC W.tI W.F1 (hr.mono (by decide)) W.b .nil pass0 (by rfl) W.gm (pa_cons pe_str (pa_cons pe_int pa_nil)))))
            pss_nil)
          (pss_cons (ps_asg (pv 2) (pg_tup (by rfl) (pgs_cons (pg_name (i := 3) nd rfl (.inl rfl)) (pgs_cons (pg_name (i := 4) nd rfl (.inl rfl)) pgs_nil))))
          (pss_one (ps_if (PW.pt (pw_or (pt_not (pt_val (pe_callB call_isi (by rfl) T.b_isinstance (by decide +kernel) (pa_cons (pv 3) (pa_cons (pe_bltn (v := .ty "str") (by rfl) T.b_str (by decide +kernel) rfl) pa_nil))))) (pw_or1 (pt_not (pt_val (pe_callB call_isi (by rfl) T.b_isinstance (by decide +kernel) (pa_cons (pv 4) (pa_cons (pe_bltn (v := .ty "str") (by rfl) T.b_str (by decide +kernel) rfl) pa_nil))))))))
            (pss_one (ps_raise rfl (takes_of rfl rfl rfl rfl) (pmk_oex W.T W.iC W.tI W.F1 (hr.mono (by decide)) W.b .nil pass0 (by rfl) W.gm (pa_cons pe_str (pa_cons pe_int pa_nil)))))
            pss_nil))))))), ?_⟩
    refine ⟨_, rfl, WD, wv, rfl, hw, lw, fun H1 s1 => ⟨_, rfl, ?_⟩⟩
    cases c1 : isTupS WD
    · refine iteT (iteT ?_)
      have k := (kno (by unfold formT; rw [c1]; rfl)).on s1
      exact ⟨by decide, mk_told k⟩
    refine iteF ?_
    have hr1 := hrv.keep s1.tkept
    refine ⟨_, rfl, _, .ty "tuple", _, _, _, rfl, .ty _, Vd.ty hr1, k_tup K _, _, rfl, ?_⟩
    cases c2 : isTupD RD
    · refine iteT ?_
      have : edgesD RD = false := by cases RD <;> first | rfl | (simp [isTupD] at c2)
      have k := (kno (by unfold formT; rw [this, Bool.and_false])).on s1
      exact ⟨by decide, mk_told k⟩
    refine iteF ?_
    cases RD <;> simp [isTupD] at c2
    rename_i ds
    obtain ⟨a, xs, rfl, ea, hs⟩ := hr1.tup
    try dsimp only [tNext]
    refine ⟨_, rfl, a, rfl, ⟨_, SqT.of ea⟩, ?_⟩
    have no : ∀ d ∈ ds, isEdgeD d = false → ∀ {G : Hp}, Same H G → Told C (fsW "form" 0) G E := fun d hd c G sG => (kno (by
      have : edgesD (.tuple ds) = false := by
        show ds.all isEdgeD = false
        rw [List.all_eq_false]
        exact ⟨d, hd, by rw [c]; decide⟩
      unfold formT
      rw [this, Bool.and_false])).on sG
    refine for_tup (K := K) (a := a) (xs := xs) (fun t σ G => ∃ v2 v3 v4 : Option V, σ = [some wv, some (.ref a), v2, v3, v4] ∧ Same H1 G ∧ ∀ j, j < t → isEdgeD (ds.getD j .none) = true) ⟨_, _, _, rfl, Same.refl _, fun j hj => absurd hj (Nat.not_lt_zero _)⟩ (fun t σ G _ ⟨_, _, _, _, sG, _⟩ => SqT.of (sG _ _ ea)) ?_ ?_
    · rintro t x σ G hx ⟨v2, v3, v4, rfl, sG, hj⟩
      have ht : t < ds.length := by
        rw [← hs.len]
        exact (List.getElem?_eq_some_iff.mp hx).1
      obtain ⟨d1, x1, hd1, hx1, v1⟩ := hs.at_ ht
      rw [hx] at hx1
      cases hx1
      have gd1 : ds.getD t .none = d1 := by rw [List.getD_eq_getElem?_getD, hd1]; rfl
      have md1 := List.mem_of_getElem? hd1
      have v1G := v1.keep sG.tkept
      have step : isEdgeD d1 = true → ∀ j, j < t + 1 → isEdgeD (ds.getD j .none) = true := fun c j hj2 => by
        by_cases e : j = t
        · rw [e, gd1]
          exact c
        · exact hj j (by omega)
      refine ⟨_, rfl, _, .ty "tuple", _, _, _, rfl, .ty _, Vd.ty v1G, k_tup K _, _, rfl, ?_⟩
      cases c3 : isTupD d1
      · refine iteT (iteT ?_)
        exact ⟨by decide, mk_told (no d1 md1 (by cases d1 <;> first | rfl | (simp [isTupD] at c3)) (s1.trans sG))⟩
      refine iteF ?_
      cases d1 <;> simp [isTupD] at c3
      rename_i es
      obtain ⟨b, ys, rfl, eb, hy⟩ := v1G.tup
      refine ⟨_, rfl, b, _, rfl, .inr (SqT.of eb), rfl, _, rfl, ?_⟩
      rw [hy.len]
      refine ite2 (fun hn => ?_) (fun hn => ?_)
      · exact ⟨by decide, mk_told (no _ md1 (not_edge (by
          intro z
          rw [z] at hn
          simp at hn)) (s1.trans sG))⟩
      have h2 : es.length = 2 := by
        simp at hn
        omega
      obtain ⟨e1, e2, rfl⟩ : ∃ e1 e2, es = [e1, e2] := by
        match es, h2 with
        | [e1, e2], _ => exact ⟨e1, e2, rfl⟩
      obtain ⟨x1, r1, rfl, w1, hs1⟩ := hy.uncons
      obtain ⟨x2, r2, rfl, w2, hs2⟩ := hs1.uncons
      unfold VdA at hs2
      subst hs2
      try dsimp only [tNext]
      refine ⟨_, rfl, b, _, rfl, SqT.of eb, rfl, _, _, rfl, _, _, rfl, rfl, ?_⟩
      try dsimp only [tNext]
      refine ⟨_, rfl, _, .ty "str", _, _, _, rfl, .ty _, Vd.ty w1, k_str K _, _, rfl, ?_⟩
      cases c4 : isStrD e1
      · refine iteT (iteT ?_)
        exact ⟨by decide, mk_told (no _ md1 (by show (isStrD e1 && isStrD e2) = false; rw [c4]; rfl) (s1.trans sG))⟩
      refine iteF ?_
      refine ⟨_, rfl, _, .ty "str", _, _, _, rfl, .ty _, Vd.ty w2, k_str K _, _, rfl, ?_⟩
      cases c5 : isStrD e2
      · refine iteT ?_
        exact ⟨by decide, mk_told (no _ md1 (by show (isStrD e1 && isStrD e2) = false; rw [c5, Bool.and_false]) (s1.trans sG))⟩
      refine iteF ?_
      exact ⟨_, _, _, rfl, sG, step (by show (isStrD e1 && isStrD e2) = true; rw [c4, c5]; rfl)⟩
    · rintro σ G ⟨v2, v3, v4, rfl, sG, hj⟩
      rw [hs.len] at hj
      refine kok ?_ G (s1.trans sG)
      unfold formT
      rw [c1, Bool.true_and]
      show ds.all isEdgeD = true
      refine List.all_eq_true.mpr fun d hd => ?_
      obtain ⟨j, hj1, hj2⟩ := List.mem_iff_getElem.mp hd
      have := hj j hj1
      rw [List.getD_eq_getElem?_getD, List.getElem?_eq_getElem hj1, hj2] at this
      exact this
end
end Tg

namespace Tg
open PySem L2 Ow ClX
def wBad (ws : List Str) (i : Nat) : Bool := (ws.take i).contains (ws.getD i "") || !isNmS (ws.getD i "")
def badW (ws : List Str) : Option Nat := (List.range ws.length).find? (wBad ws)
/-- the texts of ws ahead of the t-th, as a set's members -/
def setT (ws : List Str) (t : Nat) : Key → Bool
  | .inl _ => false
  | .inr x => (ws.take t).contains x
theorem setT_zero (ws : List Str) : setT ws 0 = fun _ => false := by
  funext k
  cases k <;> rfl
theorem setT_succ {ws : List Str} {t : Nat} (h : t < ws.length) : (fun j : Key => setT ws t j || decide (j = .inr (ws.getD t ""))) = setT ws (t + 1) := by
  funext k
  cases k with
  | inl i => simp [setT]
  | inr x =>
    show ((ws.take t).contains x || decide ((Sum.inr x : Key) = .inr (ws.getD t ""))) = (ws.take (t + 1)).contains x
    have e : ws.getD t "" = ws[t] := by rw [List.getD_eq_getElem?_getD, List.getElem?_eq_getElem h]; rfl
    rw [List.take_add_one, List.getElem?_eq_getElem h, e, Bool.eq_iff_iff]
    simp only [Bool.or_eq_true, decide_eq_true_eq, List.contains_iff_mem, List.mem_append, Option.toList_some, List.mem_singleton, Sum.inr.injEq]
section
variable {P : Program} {w : World} {K : PySem.W.Frag} {mg : Str → Option Value} {base : Heap} {C fI : Addr} {fdI : FuncData}
/-- Tree.is_name, reached by the class -/
structure NmC (P : Program) (w : World) (K : PySem.W.Frag) (mg : Str → Option Value) (base : Heap) : Prop where
  ex : ∃ (CT p g : Addr) (mc : Value), CRead K CT mc ∧ SMet K CT mc "is_name" p g ∧ FnR P w K mg base CX0 1 g spIsName ∧ mg "Tree" = some (.ref CT)
def spChkP (C : Addr) : Sp := fun vs H Q E => ∃ (ws : List Str) (a : Addr), vs = [.ref a] ∧ H a = some (.tup (ws.map V.str)) ∧ ws.length ≤ 2000000 ∧ (∀ x ∈ ws, 10 * x.length + 10 ≤ 4000000) ∧
  (1 ≤ ws.length ∧ ws.length ≤ 40 → badW ws = none → ∀ H', Same H H' → Q .non H') ∧ (1 ≤ ws.length ∧ ws.length ≤ 40 → ∀ i, badW ws = some i → Told C (fsW "place" i) H E) ∧ (¬ (1 ≤ ws.length ∧ ws.length ≤ 40) → Told C (fsW "size" 0) H E)
theorem scChkP : FnScope ["places", "seen", "at", "place"] ["places"] (defScope pPlaces) := ⟨rfl, rfl, rfl, by decide +kernel, rfl, by decide +kernel, by decide +kernel⟩
theorem ok_ChkP {f : Addr} {fd : FuncData} {t0 : Tok} (F : Fun K "check_places" "check_places" pPlaces f fd) (T : TxtP mg) (W : Rz P w K mg base C fI fdI) (N : NmC P w K mg base) (gMP : mg "MOST_PLACES" = some (.int 40 t0)) :
    FnOk P w K mg base (L2.CX P w) 3 f fd ["places"] (spChkP C) := by
  refine F.okX scChkP (fun vs H Q E h => ?_) (fun cdv A outer s H vs Q E hr h => ?_)
  · obtain ⟨ws, a, rfl, _⟩ := h
    rfl
  · obtain ⟨ws, a, rfl, ea, hlen, hx, kok, kwalk, ksize⟩ := h
    obtain ⟨CT, pT, gT, mc, rT, cT, FT, mT⟩ := N.ex
    have nd := scChkP.nd
    refine ⟨_, (pss_cons (ps_if (pt_not (pt_chain op_le op_le pe_int (pe_callB call_len_seq (by rfl) T.b_len PySem.boot_len (pa_cons (pv 0) pa_nil)) (pe_glob (v := .int 40) rfl gMP ⟨_, rfl⟩)))
        (pss_one (ps_raise rfl (takes_of rfl rfl rfl rfl) (pmk_oex W.T W.iC W.tI W.F1 (hr.mono (by decide)) W.b .nil pass0 (by rfl) W.gm (pa_cons pe_str (pa_cons pe_int pa_nil)))))
        pss_nil)
      (pss_cons (ps_set (i := 1) nd rfl (.inl rfl) (pe_callTy0 cr_set0K (by rfl) T.b_set (by decide +kernel)))
      (pss_one (ps_for (passes_of rfl) rfl (pi_enA (by rfl) T.b_enumerate (pa_cons (pv 0) pa_nil)) (pg_tup (by rfl) (pgs_cons (pg_name (i := 2) nd rfl (.inl rfl)) (pgs_cons (pg_name (i := 3) nd rfl (.inl rfl)) pgs_nil)))
        (pss_cons (ps_if (PW.pt (pw_or (pt_cmpR or_sinK (pv 3) (pv 1) rfl) (pw_or1 (pt_not (pt_val (pe_smeth (pe_glob (v := .ref CT) (by rfl) mT rfl) rT cT FT (hr.mono (by decide)) pass0 (pa_cons (pv 3) pa_nil)))))))
            (pss_one (ps_raise rfl (takes_of rfl rfl rfl rfl) (pmk_oex W.T W.iC W.tI W.F1 (hr.mono (by decide)) W.b .nil pass0 (by rfl) W.gm (pa_cons pe_str (pa_cons (pv 2) pa_nil)))))
            pss_nil)
          (pss_one (ps_expr (pe_saddK (pv 1) (pa_cons (pv 3) pa_nil))))))))), ?_⟩
    refine ⟨_, rfl, a, _, rfl, .inr (SqT.of ea), _, _, rfl, rfl, _, rfl, ?_⟩
    have lw : ((ws.map V.str).length : Int) = (ws.length : Int) := by rw [List.length_map]
    rw [lw]
    by_cases c1 : (1 : Int) ≤ (ws.length : Int)
    case neg =>
      rw [decide_eq_false c1]
      refine iteF ⟨_, rfl, iteT ?_⟩
      exact ⟨by decide, mk_told (ksize (by omega))⟩
    rw [decide_eq_true c1]
    refine iteT ⟨_, _, rfl, rfl, _, rfl, ?_⟩
    by_cases c2 : (ws.length : Int) ≤ 40
    case neg =>
      rw [decide_eq_false c2]
      refine iteT ?_
      exact ⟨by decide, mk_told (ksize (by omega))⟩
    rw [decide_eq_true c2]
    refine iteF ?_
    have sz : 1 ≤ ws.length ∧ ws.length ≤ 40 := ⟨by omega, by omega⟩
    try dsimp only [tNext]
    refine ⟨rfl, fun q nq => ?_⟩
    try dsimp only [tNext]
    have s1 : Same H (upd H q (SetK P w q (fun _ => false) 0)) := same_upd (Same.refl _) nq
    have eq : (upd H q (SetK P w q (fun _ => false) 0)) q = some (SetK P w q (setT ws 0) 0) := by rw [setT_zero]; exact upd_same
    refine ⟨_, rfl, a, _, rfl, .inr ⟨SqT.of (s1 _ _ ea), ?_⟩⟩
    refine for_it (walk_enT (xs := ws.map V.str)) (fun t σ G => ∃ v2 v3 : Option V, σ = [some (.ref a), some (.ref q), v2, v3] ∧ Same H G ∧ G q = some (SetK P w q (setT ws t) t) ∧ ∀ j, j < t → wBad ws j = false) ⟨_, _, rfl, s1, eq, fun j hj => absurd hj (Nat.not_lt_zero _)⟩ (fun t σ G _ ⟨_, _, _, sG, _⟩ => SqT.of (sG _ _ ea)) ?_ ?_
    · rintro t x σ G G2 ht ⟨v2, v3, rfl, sG, eqG, hj⟩ ⟨T0, x0, y0, rfl, nT, rfl, ex, ey⟩
      obtain rfl : V.int (t : Nat) = x0 := Option.some.inj ex
      have ht2 : t < ws.length := by rw [List.length_map] at ht; exact ht
      have ey2 : y0 = V.str (ws.getD t "") := by
        have ey : (ws.map V.str)[t]? = some y0 := ey
        rw [List.getElem?_map, List.getElem?_eq_getElem ht2] at ey
        rw [List.getD_eq_getElem?_getD, List.getElem?_eq_getElem ht2]
        exact (Option.some.inj ey).symm
      subst ey2
      have hwt : ws.getD t "" ∈ ws := by
        rw [List.getD_eq_getElem?_getD, List.getElem?_eq_getElem ht2]
        exact List.getElem_mem ht2
      have s2 : Same H (upd G T0 (.tup [.int (t : Nat), V.str (ws.getD t "")])) := same_upd sG (sG.free nT)
      have eT : (upd G T0 (.tup [.int (t : Nat), V.str (ws.getD t "")])) T0 = some (.tup [.int (t : Nat), V.str (ws.getD t "")]) := upd_same
      have eq2 : (upd G T0 (.tup [.int (t : Nat), V.str (ws.getD t "")])) q = some (SetK P w q (setT ws t) t) := by rw [upd_ne (ne_of_none eqG nT)]; exact eqG
      generalize upd G T0 (.tup [.int (t : Nat), V.str (ws.getD t "")]) = G3 at s2 eT eq2 ⊢
      refine ⟨T0, _, rfl, SqT.of eT, rfl, _, _, rfl, _, _, rfl, rfl, ?_⟩
      have wb : wBad ws t = ((ws.take t).contains (ws.getD t "") || !isNmS (ws.getD t "")) := rfl
      have bad : wBad ws t = true → Told C (fsW "place" (t : Int)) G3 E := fun z => (kwalk sz t (find_hit ht2 hj z)).on s2
      have good : wBad ws t = false → ∀ j, j < t + 1 → wBad ws j = false := fun z j hj2 => by
        by_cases e : j = t
        · rw [e]; exact z
        · exact hj j (by omega)
      refine ⟨_, rfl, _, rfl, .inr (ws.getD t ""), q, _, _, rfl, rfl, eq2, _, rfl, ?_⟩
      show if ((ws.take t).contains (ws.getD t "")) = true then _ else _
      cases c3 : (ws.take t).contains (ws.getD t "")
      · refine iteF ?_
        rw [c3, Bool.false_or] at wb
        refine ⟨rfl, _, rfl, .str (ws.getD t ""), _, rfl, Vd.mkStr _, hx _ hwt, _, rfl, ?_⟩
        show if (!isNmS (ws.getD t "")) = true then _ else _
        cases c4 : isNmS (ws.getD t "")
        · rw [c4] at wb
          refine iteT ?_
          exact ⟨_, rfl, (by show 2 ≤ 1000; decide), mk_told (bad wb)⟩
        · rw [c4] at wb
          refine iteF ?_
          try dsimp only [tNext]
          refine ⟨_, rfl, ⟨q, _, _, rfl, eq2⟩, _, rfl, q, .inr (ws.getD t ""), _, _, rfl, rfl, eq2, ?_, ?_⟩
          · have : t + 1 < 1000 := by omega
            exact Nat.lt_of_lt_of_le this (by decide)
          · have cn : setT ws t (.inr (ws.getD t "")) = false := c3
            rw [setT_succ ht2, if_neg (by rw [cn]; decide)]
            refine ⟨_, _, rfl, fun b o e => ?_, upd_same, good wb⟩
            rw [upd_ne (ne_of_none e nq)]
            exact s2 _ _ e
      · refine iteT ?_
        rw [c3] at wb
        exact ⟨_, rfl, (by show 2 ≤ 1000; decide), mk_told (bad wb)⟩
    · rintro σ G ⟨v2, v3, rfl, sG, _, hj⟩
      rw [List.length_map] at hj
      exact kok sz (find_no hj) G sG
end
end Tg

namespace Tg
open PySem L2 Ow ClX
/-! ### a dict of lists of texts, a list a place -/
structure LisAt (H : Hp) (p : Addr) (ws : List Str) (ls : Nat → Addr) (M : Nat → List Str) : Prop where
  top : H p = some (.dK (kvT (fun i => .ref (ls i)) ws ws.length))
  row : ∀ i, i < ws.length → H (ls i) = some (.lst ((M i).map V.str))
  inj : ∀ i j, i < ws.length → j < ws.length → ls i = ls j → i = j
theorem LisAt.same {H H' : Hp} {p : Addr} {ws : List Str} {ls : Nat → Addr} {M : Nat → List Str} (m : LisAt H p ws ls M) (s : Same H H') : LisAt H' p ws ls M := ⟨s _ _ m.top, fun i hi => s _ _ (m.row i hi), m.inj⟩
def addM (M : Nat → List Str) (i : Nat) (x : Str) : Nat → List Str := fun a => if a = i then M a ++ [x] else M a
theorem LisAt.pq {H : Hp} {p : Addr} {ws : List Str} {ls : Nat → Addr} {M : Nat → List Str} (m : LisAt H p ws ls M) {i : Nat} (hi : i < ws.length) : p ≠ ls i := fun z => by
  have e1 := m.top
  rw [z, m.row i hi] at e1
  cases e1
theorem LisAt.put {H : Hp} {p : Addr} {ws : List Str} {ls : Nat → Addr} {M : Nat → List Str} (m : LisAt H p ws ls M) {i : Nat} (hi : i < ws.length) (x : Str) :
    LisAt (upd H (ls i) (.lst ((M i).map V.str ++ [.str x]))) p ws ls (addM M i x) := by
  refine ⟨by rw [upd_ne (m.pq hi)]; exact m.top, fun a ha => ?_, m.inj⟩
  by_cases e : a = i
  · subst e
    rw [upd_same]
    unfold addM
    rw [if_pos rfl, List.map_append]
    rfl
  · rw [upd_ne fun z => e (m.inj a i ha hi z), m.row a ha]
    unfold addM
    rw [if_neg e]
theorem LisAt.g1 {H : Hp} {p : Addr} {ws : List Str} {ls : Nat → Addr} {M : Nat → List Str} (nd : ws.Nodup) (m : LisAt H p ws ls M) {i : Nat} (hi : i < ws.length) : DGet H p (.str (ws.getD i "")) (some (.ref (ls i))) :=
  dget_of (k := .inr (ws.getD i "")) m.top (kvT_val nd hi (Nat.le_refl _))
theorem LisAt.congr {H : Hp} {p : Addr} {ws : List Str} {ls : Nat → Addr} {M N : Nat → List Str} (m : LisAt H p ws ls M) (h : ∀ i, i < ws.length → M i = N i) : LisAt H p ws ls N := ⟨m.top, fun i hi => by rw [← h i hi]; exact m.row i hi, m.inj⟩
theorem kvT_none {f : Nat → V} {ws : List Str} {x : Str} : ∀ {t : Nat}, t ≤ ws.length → x ∉ ws.take t → valV (kvT f ws t) (.inr x : Key) = none
  | 0, _, _ => rfl
  | t + 1, ht, h => by
    have e : ws.getD t "" = ws[t] := by rw [List.getD_eq_getElem?_getD, List.getElem?_eq_getElem (by omega)]; rfl
    rw [List.take_add_one, List.getElem?_eq_getElem (by omega)] at h
    have h1 : x ∉ ws.take t := fun z => h (List.mem_append_left _ z)
    have h2 : x ≠ ws[t] := fun z => h (List.mem_append_right _ (by simp [z]))
    rw [kvT_succ, valV_app (kvT_none (by omega) h1), e]
    have h3 : ¬ ((Sum.inr ws[t] : Key) = .inr x) := fun z => h2 (Sum.inr.inj z).symm
    simp [valV, h3]
theorem dget_ofN {H : Hp} {a : Addr} {kvs : List (Key × V)} {k : Key} (e : H a = some (.dK kvs)) (h : valV kvs k = none) : DGet H a (kV k) none := by
  rw [← h]
  exact DGet.k e
theorem LisAt.gn {H : Hp} {p : Addr} {ws : List Str} {ls : Nat → Addr} {M : Nat → List Str} (m : LisAt H p ws ls M) {x : Str} (hx : x ∉ ws) : DGet H p (.str x) none :=
  dget_ofN (k := .inr x) m.top (kvT_none (Nat.le_refl _) (by rw [List.take_length]; exact hx))
/-! ### the neighbours as the edges tell them -/
def mateOf (es : List Edg) (x : Str) : List Str := es.flatMap fun e => (if e.1 = x then [e.2] else []) ++ (if e.2 = x then [e.1] else [])
theorem mateOf_app (es fs : List Edg) (x : Str) : mateOf (es ++ fs) x = mateOf es x ++ mateOf fs x := by
  unfold mateOf
  rw [List.flatMap_append]
theorem mateOf_len (es : List Edg) (x : Str) : (mateOf es x).length ≤ 2 * es.length := by
  induction es with
  | nil => exact Nat.zero_le _
  | cons e es ih =>
    have : mateOf (e :: es) x = ((if e.1 = x then [e.2] else []) ++ (if e.2 = x then [e.1] else [])) ++ mateOf es x := rfl
    rw [this, List.length_append, List.length_append, List.length_cons]
    split <;> split <;> simp <;> omega
def eBad (ws : List Str) (es : List Edg) (t : Nat) : Bool :=
  (!ws.contains (es.getD t ("", "")).1 || !ws.contains (es.getD t ("", "")).2) || (decide ((es.getD t ("", "")).1 = (es.getD t ("", "")).2) || (mateOf (es.take t) (es.getD t ("", "")).1).contains (es.getD t ("", "")).2)
def badE (ws : List Str) (es : List Edg) : Option Nat := (List.range es.length).find? (eBad ws es)
theorem vdA_edgs {H : Hp} : ∀ {rs : List Edg} {xs : List V} {i : Nat}, VdA H (rs.map edgD) xs → i < rs.length → ∃ (q : Addr), xs[i]? = some (.ref q) ∧ H q = some (.tup [.str (rs.getD i ("", "")).1, .str (rs.getD i ("", "")).2]) := by
  intro rs xs i h hi
  obtain ⟨d, x, e1, e2, v⟩ := h.at_ (i := i) (by rw [List.length_map]; exact hi)
  rw [List.getElem?_map, List.getElem?_eq_getElem hi] at e1
  cases Option.some.inj e1
  obtain ⟨q, ys, rfl, eq, hs⟩ := v.tup
  obtain ⟨x1, r1, rfl, v1, hs1⟩ := hs.uncons
  obtain ⟨x2, r2, rfl, v2, hs2⟩ := hs1.uncons
  unfold VdA at hs2
  subst hs2
  rw [v1.str, v2.str] at eq
  refine ⟨q, e2, ?_⟩
  rw [List.getD_eq_getElem?_getD, List.getElem?_eq_getElem hi]
  exact eq
theorem iteTx {c : Bool} {A B : Prop} (h : c = true) (a : A) : if c = true then A else B := by
  rw [h]
  exact iteT a
theorem iteFx {c : Bool} {A B : Prop} (h : c = false) (b : B) : if c = true then A else B := by
  rw [h]
  exact iteF b
section
variable {P : Program} {w : World} {K : PySem.W.Frag} {mg : Str → Option Value} {base : Heap} {C fI : Addr} {fdI : FuncData}
def spMates (C : Addr) : Sp := fun vs H Q E => ∃ (ws : List Str) (es : List Edg) (xs : List V) (a b : Addr), vs = [.ref a, .ref b] ∧ H a = some (.tup (ws.map V.str)) ∧ H b = some (.tup xs) ∧ VdA H (es.map edgD) xs ∧ ws.Nodup ∧ ws.length ≤ 40 ∧ es.length ≤ 2000000 ∧
  (badE ws es = none → ∀ p ls H', H p = none → Same H H' → LisAt H' p ws ls (fun i => mateOf es (ws.getD i "")) → (∀ i, i < ws.length → H (ls i) = none) → Q (.ref p) H') ∧
  (∀ i, badE ws es = some i → Told C (fsW "edge" i) H E)
abbrev maN : List Str := ["places", "edges", "mates", "at", "one", "other", "place"]
theorem scMates : FnScope maN ["places", "edges"] (defScope pMates) := ⟨rfl, rfl, rfl, by decide +kernel, rfl, by decide +kernel, by decide +kernel⟩
theorem ok_Mates {f : Addr} {fd : FuncData} (F : Fun K "mates_by_place" "mates_by_place" pMates f fd) (T : TxtP mg) (W : Rz P w K mg base C fI fdI) : FnOk P w K mg base (L2.CX P w) 3 f fd ["places", "edges"] (spMates C) := by
  refine F.okX scMates (fun vs H Q E h => ?_) (fun cdv A outer s H vs Q E hr h => ?_)
  · obtain ⟨ws, es, xs, a, b, rfl, _⟩ := h
    rfl
  · obtain ⟨ws, es, xs, a, b, rfl, ea, eb, hv, nw, hl, hes, kok, kno⟩ := h
    have nd := scMates.nd
    have hu := hu_of hr
    have lx : xs.length = es.length := by rw [hv.len, List.length_map]
    refine ⟨_, (pss_cons (ps_setDc (n := 2) (own := [("place", 6)]) (g := gName 6) rfl nd rfl rfl (sw_trueD rfl rfl rfl (by decide +kernel)) (pi_tup (pv 0)) (blkOk_by (own := [("place", 6)]) (N := maN) (sc := defScope pMates) (by decide +kernel)) (fun _ _ _ _ _ => (pg_name (i := 6) nd rfl (.inl rfl))) (fun _ _ _ _ _ => pts_nil) (fun _ _ _ _ _ => pv 6) (fun _ _ _ _ _ => pe_lst pa_nil))
      (pss_cons (ps_for (passes_of rfl) rfl (pi_enA (by rfl) T.b_enumerate (pa_cons (pv 1) pa_nil)) (pg_tup (by rfl) (pgs_cons (pg_name (i := 3) nd rfl (.inl rfl)) (pgs_cons (pg_tup (by rfl) (pgs_cons (pg_name (i := 4) nd rfl (.inl rfl)) (pgs_cons (pg_name (i := 5) nd rfl (.inl rfl)) pgs_nil))) pgs_nil)))
        (pss_cons (ps_if (PW.pt (pw_or (pt_cmp (pc_dnotin hu (pv 4) (pv 2)) rfl) (pw_or1 (pt_cmp (pc_dnotin hu (pv 5) (pv 2)) rfl))))
            (pss_one (ps_raise rfl (takes_of rfl rfl rfl rfl) (pmk_oex W.T W.iC W.tI W.F1 (hr.mono (by decide)) W.b .nil pass0 (by rfl) W.gm (pa_cons pe_str (pa_cons (pv 3) pa_nil)))))
            pss_nil)
        (pss_cons (ps_if (PW.pt (pw_or (pt_cmpR op_eq (pv 4) (pv 5) (nomark _)) (pw_or1 (pt_cmpR op_in_seq (pv 5) (pe_dget hu (pv 2) (pv 4) (fun _ _ => rfl)) rfl))))
            (pss_one (ps_raise rfl (takes_of rfl rfl rfl rfl) (pmk_oex W.T W.iC W.tI W.F1 (hr.mono (by decide)) W.b .nil pass0 (by rfl) W.gm (pa_cons pe_str (pa_cons (pv 3) pa_nil)))))
            pss_nil)
        (pss_cons (ps_expr (pe_bm PySem.F.plainAttrs_list PySem.F.slot_list_append PySem.F.type_list_append mt_append (pe_dget hu (pv 2) (pv 4) (fun _ _ => rfl)) (pa_cons (pv 5) pa_nil)))
        (pss_one (ps_expr (pe_bm PySem.F.plainAttrs_list PySem.F.slot_list_append PySem.F.type_list_append mt_append (pe_dget hu (pv 2) (pv 5) (fun _ _ => rfl)) (pa_cons (pv 4) pa_nil))))))))
      (pss_one (ps_ret (pv 2))))), ?_⟩
    have lw : (ws.map V.str).length = ws.length := List.length_map ..
    have wat : ∀ {i : Nat} {x : V}, (ws.map V.str)[i]? = some x → i < ws.length ∧ x = V.str (ws.getD i "") := fun {i x} h => by
      have hi : i < ws.length := by rw [← lw]; exact (List.getElem?_eq_some_iff.mp h).1
      rw [List.getElem?_map, List.getElem?_eq_getElem hi] at h
      rw [List.getD_eq_getElem?_getD, List.getElem?_eq_getElem hi]
      exact ⟨hi, (Option.some.inj h).symm⟩
    have hsz : ws.length < sizeLine := small1000 (by omega)
    refine ⟨_, rfl, a, rfl, ⟨_, SqT.of ea⟩, fun D hD => ?_⟩
    refine dc_tup (K := K) (a := a) (xs := ws.map V.str) (fun t G => ∃ qs : Nat → Addr, G D = some (.dK (kvT (fun i => .ref (qs i)) ws t)) ∧ (∀ i, i < t → G (qs i) = some (.lst []) ∧ H (qs i) = none ∧ qs i ≠ D) ∧ (∀ i j, i < t → j < t → qs i = qs j → i = j) ∧ Same H G)
      ⟨fun _ => 0, upd_same, (fun i hi => absurd hi (Nat.not_lt_zero _)), (fun i j hi => absurd hi (Nat.not_lt_zero _)), same_upd (Same.refl _) hD⟩ (fun t G _ ⟨_, _, _, _, sG⟩ => SqT.of (sG _ _ ea)) ?_ ?_
    · rintro t x G hx ⟨qs, eD, rows, inj, sG⟩
      obtain ⟨ht, rfl⟩ := wat hx
      refine ⟨rfl, _, rfl, (by show 0 ≤ sizeLine; decide), fun D2 hD2 => ?_⟩
      have hDD : D ≠ D2 := fun z => by rw [z, hD2] at eD; cases eD
      refine ⟨_, .inr (ws.getD t ""), rfl, by rw [upd_ne hDD]; exact eD, by rw [kvT_len]; omega, fun i => if i = t then D2 else qs i, ?_, fun i hi => ?_, fun i j hi hj e => ?_, ?_⟩
      · rw [upd_same]
        congr 2
        have c := kvT_congr (f := fun i => V.ref (qs i)) (g := fun i => V.ref (if i = t then D2 else qs i)) (ws := ws) (t := t) (fun j hj => by
          have : j ≠ t := by omega
          simp [this])
        rw [c, ← kvT_put_new (f := fun i => V.ref (if i = t then D2 else qs i)) nw ht]
        simp
      · by_cases e : i = t
        · subst e
          simp only [if_true]
          refine ⟨by rw [upd_ne hDD.symm, upd_same], sG.free hD2, hDD.symm⟩
        · simp only [e, if_false]
          obtain ⟨r1, r2, r3⟩ := rows i (by omega)
          refine ⟨by rw [upd_ne r3, upd_ne (ne_of_none r1 hD2)]; exact r1, r2, r3⟩
      · by_cases e1 : i = t <;> by_cases e3 : j = t
        · omega
        · simp only [e1, e3, if_true, if_false] at e
          exfalso
          have := (rows j (by omega)).1
          rw [← e, hD2] at this
          cases this
        · simp only [e1, e3, if_true, if_false] at e
          exfalso
          have := (rows i (by omega)).1
          rw [e, hD2] at this
          cases this
        · simp only [e1, e3, if_false] at e
          exact inj i j (by omega) (by omega) e
      · intro b2 o2 e
        rw [upd_ne (ne_of_none e hD), upd_ne (ne_of_none (sG _ _ e) hD2)]
        exact sG _ _ e
    rintro G ⟨qs, eD, rows, inj, sG⟩
    rw [lw] at eD rows inj
    have mat : LisAt G D ws qs (fun i => mateOf (es.take 0) (ws.getD i "")) := ⟨eD, fun i hi => (rows i hi).1, inj⟩
    have fr : ∀ i, i < ws.length → H (qs i) = none := fun i hi => (rows i hi).2.1
    try dsimp only [tNext]
    refine ⟨_, rfl, b, _, rfl, .inr ⟨SqT.of (sG _ _ eb), ?_⟩⟩
    refine for_it (walk_enT (xs := xs)) (fun t σ G => ∃ v3 v4 v5 v6 : Option V, σ = [some (.ref a), some (.ref b), some (.ref D), v3, v4, v5, v6] ∧ Same H G ∧ LisAt G D ws qs (fun i => mateOf (es.take t) (ws.getD i "")) ∧ ∀ j, j < t → eBad ws es j = false) ⟨_, _, _, _, rfl, sG, mat, fun j hj => absurd hj (Nat.not_lt_zero _)⟩ (fun t σ G _ ⟨_, _, _, _, _, s2, _⟩ => SqT.of (s2 _ _ eb)) ?_ ?_
    · rintro t x σ G G2 ht ⟨v3, v4, v5, v6, rfl, sG, mat, hj⟩ ⟨T0, x0, y0, rfl, nT, rfl, ex, ey⟩
      obtain rfl : V.int (t : Nat) = x0 := Option.some.inj ex
      have ht2 : t < es.length := by rw [← lx]; exact ht
      obtain ⟨q, exq, eq⟩ := vdA_edgs hv ht2
      obtain rfl : V.ref q = y0 := by
        have ey : xs[t]? = some y0 := ey
        rw [exq] at ey
        exact Option.some.inj ey
      generalize eab : es.getD t ("", "") = ab at eq
      obtain ⟨one, other⟩ := ab
      have s2 : Same H (upd G T0 (.tup [.int (t : Nat), .ref q])) := same_upd sG (sG.free nT)
      have s3 : Same G (upd G T0 (.tup [.int (t : Nat), .ref q])) := same_upd (Same.refl _) nT
      have eT : (upd G T0 (.tup [.int (t : Nat), .ref q])) T0 = some (.tup [.int (t : Nat), .ref q]) := upd_same
      have mat := mat.same s3
      generalize upd G T0 (.tup [.int (t : Nat), .ref q]) = G3 at s2 eT mat ⊢
      clear s3
      have wb : eBad ws es t = ((!ws.contains one || !ws.contains other) || (decide (one = other) || (mateOf (es.take t) one).contains other)) := by
        unfold eBad
        rw [eab]
      have bad : eBad ws es t = true → Told C (fsW "edge" (t : Int)) G3 E := fun z => (kno t (find_hit ht2 hj z)).on s2
      have good : eBad ws es t = false → ∀ j, j < t + 1 → eBad ws es j = false := fun z j hj2 => by
        by_cases e : j = t
        · rw [e]; exact z
        · exact hj j (by omega)
      have place : ∀ {y : Str}, y ∈ ws → ∃ i, i < ws.length ∧ y = ws.getD i "" := fun {y} m => by
        obtain ⟨i, hi, ei⟩ := List.mem_iff_getElem.mp m
        exact ⟨i, hi, by rw [List.getD_eq_getElem?_getD, List.getElem?_eq_getElem hi, ← ei]; rfl⟩
      refine ⟨T0, _, rfl, SqT.of eT, rfl, _, _, rfl, _, _, rfl, q, _, rfl, SqT.of (s2 _ _ eq), rfl, _, _, rfl, _, _, rfl, rfl, ?_⟩
      refine ⟨rfl, ?_⟩
      by_cases m1 : one ∈ ws
      case neg =>
        have c1 : ws.contains one = false := by
          rw [Bool.eq_false_iff]
          exact fun z => m1 (List.contains_iff_mem.mp z)
        rw [c1] at wb
        refine ⟨_, rfl, _, rfl, D, _, rfl, mat.gn m1, _, rfl, iteT (iteT ?_)⟩
        exact ⟨_, rfl, (by show 2 ≤ 1000; decide), mk_told (bad wb)⟩
      obtain ⟨i, hi, gi⟩ := place m1
      have c1 : ws.contains one = true := List.contains_iff_mem.mpr m1
      have d1 : DGet G3 D (.str one) (some (.ref (qs i))) := by rw [gi]; exact mat.g1 nw hi
      refine ⟨_, rfl, _, rfl, D, _, rfl, d1, _, rfl, iteF ?_⟩
      by_cases m2 : other ∈ ws
      case neg =>
        have c2 : ws.contains other = false := by
          rw [Bool.eq_false_iff]
          exact fun z => m2 (List.contains_iff_mem.mp z)
        rw [c1, c2] at wb
        refine ⟨_, rfl, _, rfl, D, _, rfl, mat.gn m2, _, rfl, iteT ?_⟩
        exact ⟨_, rfl, (by show 2 ≤ 1000; decide), mk_told (bad wb)⟩
      obtain ⟨j, hj2, gj⟩ := place m2
      have c2 : ws.contains other = true := List.contains_iff_mem.mpr m2
      have d2 : DGet G3 D (.str other) (some (.ref (qs j))) := by rw [gj]; exact mat.g1 nw hj2
      refine ⟨_, rfl, _, rfl, D, _, rfl, d2, _, rfl, iteF ?_⟩
      rw [c1, c2] at wb
      try dsimp only [tNext]
      have r1 := mat.row i hi
      rw [← gi] at r1
      refine ⟨_, rfl, _, rfl, rfl, _, rfl, ?_⟩
      by_cases m3 : one = other
      case pos =>
        rw [decide_eq_true m3] at wb
        refine iteTx (decide_eq_true (congrArg V.str m3)) (iteT ?_)
        exact ⟨_, rfl, (by show 2 ≤ 1000; decide), mk_told (bad wb)⟩
      rw [decide_eq_false m3] at wb
      refine iteFx (decide_eq_false fun z => m3 (V.str.inj z)) ?_
      refine ⟨_, rfl, _, rfl, _, rfl, D, _, rfl, d1, qs i, _, rfl, .inl (SqL.of r1), rfl, flat_strs _, _, rfl, ?_⟩
      rw [inV_strs]
      cases m4 : (mateOf (es.take t) one).contains other
      case true =>
        rw [m4] at wb
        refine iteT ?_
        exact ⟨_, rfl, (by show 2 ≤ 1000; decide), mk_told (bad wb)⟩
      rw [m4] at wb
      refine iteF ?_
      try dsimp only [tNext]
      -- mates[one].append(other)
      have szm : ∀ y : Str, (mateOf (es.take t) y).length < sizeLine := fun y => by
        have := mateOf_len (es.take t) y
        rw [List.length_take] at this
        rw [sizeLine_eq]
        omega
      refine ⟨_, rfl, _, rfl, D, _, rfl, d1, .inl ⟨rfl, _, SqL.of r1⟩, ?_⟩
      refine ⟨_, rfl, qs i, _, _, rfl, rfl, r1, by rw [List.length_map]; exact szm _, ?_⟩
      have mat2 := mat.put hi other
      rw [← gi] at mat2
      have s4 : Same H (upd G3 (qs i) (.lst ((mateOf (es.take t) one).map V.str ++ [.str other]))) := fun b2 o2 e => by
        rw [upd_ne (ne_of_none e (fr i hi))]
        exact s2 _ _ e
      generalize upd G3 (qs i) (.lst ((mateOf (es.take t) one).map V.str ++ [.str other])) = G4 at mat2 s4 ⊢
      try dsimp only [tNext]
      have nij : j ≠ i := fun z => m3 (by rw [gi, gj, z])
      have r2 := mat2.row j hj2
      have e2 : addM (fun i => mateOf (es.take t) (ws.getD i "")) i other j = mateOf (es.take t) other := by
        unfold addM
        rw [if_neg nij]
        show mateOf (es.take t) (ws.getD j "") = _
        rw [← gj]
      rw [e2] at r2
      have d3 : DGet G4 D (.str other) (some (.ref (qs j))) := by rw [gj]; exact mat2.g1 nw hj2
      refine ⟨_, rfl, _, rfl, D, _, rfl, d3, .inl ⟨rfl, _, SqL.of r2⟩, ?_⟩
      refine ⟨_, rfl, qs j, _, _, rfl, rfl, r2, by rw [List.length_map]; exact szm _, ?_⟩
      have mat3 := mat2.put hj2 one
      rw [e2] at mat3
      refine ⟨_, _, _, _, rfl, fun b2 o2 e => ?_, mat3.congr fun k hk => ?_, good wb⟩
      · rw [upd_ne (ne_of_none e (fr j hj2))]
        exact s4 _ _ e
      · have ete : es.take (t + 1) = es.take t ++ [(one, other)] := by
          rw [List.take_add_one, List.getElem?_eq_getElem ht2]
          rw [List.getD_eq_getElem?_getD, List.getElem?_eq_getElem ht2] at eab
          rw [show es[t] = (one, other) from eab]
          rfl
        have em : mateOf [(one, other)] (ws.getD k "") = (if one = ws.getD k "" then [other] else []) ++ (if other = ws.getD k "" then [one] else []) := by
          show ((if one = ws.getD k "" then [other] else []) ++ (if other = ws.getD k "" then [one] else [])) ++ [] = _
          rw [List.append_nil]
        rw [ete, mateOf_app, em]
        unfold addM
        by_cases k1 : k = j
        · subst k1
          have h1 : ¬ one = ws.getD k "" := fun z => m3 (z.trans gj.symm)
          rw [if_pos rfl, if_neg nij, if_neg h1, if_pos gj]
          rfl
        · have h2 : ¬ other = ws.getD k "" := fun z => k1 (getD_inj nw hk hj2 (by rw [← z, gj]))
          rw [if_neg k1, if_neg h2, List.append_nil]
          by_cases k2 : k = i
          · subst k2
            rw [if_pos rfl, if_pos gi]
          · have h1 : ¬ one = ws.getD k "" := fun z => k2 (getD_inj nw hk hi (by rw [← z, gi]))
            rw [if_neg k2, if_neg h1, List.append_nil]
    · rintro σ G ⟨v3, v4, v5, v6, rfl, sG, mat, hj⟩
      rw [lx] at hj mat
      rw [List.take_length] at mat
      exact ⟨_, rfl, kok (find_no hj) D qs G hD sG mat fr⟩
end
end Tg

namespace Tg
open PySem L2 Ow ClX
/-- a dict made over any walk -/
theorem dc_it {J : It} {n : Nat} {G : Hp → Prop} {Y : Nat → Hp → V → Hp → Prop} (wk : Walk J n G Y) {g : TG} {tt : TT} {tk tv : TE} {vs : List Nat} {σ : L2.St} {H1 : Hp} {D : Addr} {Qd : Hp → Prop} (Pv : Nat → Hp → Prop) (h0 : Pv 0 (upd H1 D (.dK []))) (hG : ∀ i H, i ≤ n → Pv i H → G H)
    (hs : ∀ i x H H', i < n → Pv i H → Y i H x H' → g x (wipe σ vs) H' fun σ2 H2 => wipe σ2 vs = wipe σ vs ∧ tt σ2 H2 fun b H3 =>
      if b = true then tk σ2 H3 fun y H4 => tv σ2 H4 fun z H5 => ∃ kvs k, y = kV k ∧ H5 D = some (.dK kvs) ∧ kvs.length < sizeLine ∧ Pv (i + 1) (upd H5 D (.dK (putK kvs k z))) else Pv (i + 1) H3) (hd : ∀ H, Pv n H → Qd H) :
    ∃ W : Nat → Nat → Hp → Prop, (∃ m, W 0 m (upd H1 D (.dK []))) ∧ ∀ i m H, W i m H →
      (J.stop i H ∧ Qd H) ∨ (J.go i H ∧ ∃ Nx : Hp → Prop, (∀ H', Nx H' → ∃ m', m' < m ∧ W (i + 1) m' H') ∧ ∀ x H', J.yld i H x H' → g x (wipe σ vs) H' fun σ2 H2 => wipe σ2 vs = wipe σ vs ∧ tt σ2 H2 fun b H3 =>
        if b = true then tk σ2 H3 fun y H4 => tv σ2 H4 fun z H5 => ∃ kvs k, y = kV k ∧ H5 D = some (.dK kvs) ∧ kvs.length < sizeLine ∧ Nx (upd H5 D (.dK (putK kvs k z))) else Nx H3) := by
  refine ⟨fun i m H => m = n - i ∧ i ≤ n ∧ Pv i H, ⟨n, by simp, Nat.zero_le _, h0⟩, ?_⟩
  rintro i m H ⟨rfl, hi, p⟩
  have q := hG i H hi p
  by_cases hlt : i < n
  · refine .inr ⟨wk.goes i H hlt q, Pv (i + 1), fun H' p' => ⟨n - (i + 1), by omega, rfl, hlt, p'⟩, fun x H' y => hs i x H H' hlt p (wk.yields i H x H' hlt q y)⟩
  · have e : i = n := by omega
    subst e
    exact .inl ⟨wk.stops H q, hd H p⟩
/-- all but what stands at m is as it was -/
def SameX (m : Addr) (H H' : Hp) : Prop := ∀ a o, a ≠ m → H a = some o → H' a = some o
theorem dget_frz {H : Hp} {a : Addr} {od : Obj} {kvs : List (Key × V)} {k : Key} {v : V} (e : H a = some (.frz od (.dK kvs))) (h : valV kvs k = some v) : DGet H a (kV k) (some v) := .inl ⟨kvs, k, .inr ⟨od, e⟩, rfl, h.symm⟩
/-- the neighbours in the order of the places -/
def nearOf (ws : List Str) (M : Nat → List Str) (t : Nat) (y : Str) : List Str := (List.range t).flatMap fun i => ((M i).filter fun z => z == y).map fun _ => ws.getD i ""
theorem kvT_at {f : Nat → V} {ws : List Str} {n i : Nat} (hi : i < n) : (kvT f ws n)[i]? = some (.inr (ws.getD i ""), f i) := by
  unfold kvT
  rw [List.getElem?_map, List.getElem?_range hi]
  rfl
theorem nearOf_succ (ws : List Str) (M : Nat → List Str) (t : Nat) (y : Str) : nearOf ws M (t + 1) y = nearOf ws M t y ++ ((M t).filter fun z => z == y).map fun _ => ws.getD t "" := by
  unfold nearOf
  rw [List.range_succ, List.flatMap_append]
  congr 1
  show _ ++ [] = _
  rw [List.append_nil]
theorem nearOf_len {ws : List Str} {M : Nat → List Str} {y : Str} : ∀ {t : Nat}, (∀ i, i < t → (M i).length ≤ 100000) → (nearOf ws M t y).length ≤ t * 100000
  | 0, _ => Nat.zero_le _
  | t + 1, h => by
    have h1 := nearOf_len (y := y) (ws := ws) (t := t) fun i hi => h i (by omega)
    have h2 := h t (by omega)
    have h3 := List.length_filter_le (fun z => z == y) (M t)
    rw [nearOf_succ, List.length_append, List.length_map, Nat.add_mul]
    omega
section
variable {P : Program} {w : World} {K : PySem.W.Frag} {mg : Str → Option Value} {base : Heap}
def spNear : Sp := fun vs H Q _ => ∃ (ws : List Str) (m : Addr) (ls : Nat → Addr) (M : Nat → List Str), vs = [.ref m] ∧ LisAt H m ws ls M ∧ ws.Nodup ∧ ws.length ≤ 40 ∧ (∀ i, i < ws.length → (M i).length ≤ 100000 ∧ ∀ x ∈ M i, x ∈ ws) ∧
  ∀ p ns H', H p = none → Same H H' → LisAt H' p ws ns (fun j => nearOf ws M ws.length (ws.getD j "")) → (∀ i, i < ws.length → H (ns i) = none) → Q (.ref p) H'
abbrev neN : List Str := ["mates", "near", "place", "mate"]
theorem scNear : FnScope neN ["mates"] (defScope pNear) := ⟨rfl, rfl, rfl, by decide +kernel, rfl, by decide +kernel, by decide +kernel⟩
theorem ok_Near {f : Addr} {fd : FuncData} (F : Fun K "in_place_order" "in_place_order" pNear f fd) : FnOk P w K mg base CX0 1 f fd ["mates"] spNear := by
  refine F.ok scNear (fun vs H Q E h => ?_) (fun cdv A outer s H vs Q E hr h => ?_)
  · obtain ⟨ws, m, ls, M, rfl, _⟩ := h
    rfl
  · obtain ⟨ws, m, ls, M, rfl, lm, nw, hl, hM, k⟩ := h
    have nd := scNear.nd
    have hu := hu_of hr
    refine ⟨_, (pss_cons (ps_lock (ps_setDc (n := 1) (own := [("place", 2)]) (g := gName 2) rfl nd rfl rfl (sw_trueD rfl rfl rfl (by decide +kernel)) (pi_keys (pv 0)) (blkOk_by (own := [("place", 2)]) (N := neN) (sc := defScope pNear) (by decide +kernel)) (fun _ _ _ _ _ => (pg_name (i := 2) nd rfl (.inl rfl))) (fun _ _ _ _ _ => pts_nil) (fun _ _ _ _ _ => pv 2) (fun _ _ _ _ _ => pe_lst pa_nil)))
      (pss_cons (ps_lock (ps_for PassesOwn.never rfl (pi_keys (pv 0)) (pg_name (i := 2) nd rfl (.inl rfl))
        (pss_one (ps_for PassesOwn.never rfl (pi_list (pe_dget hu (pv 0) (pv 2) (fun _ _ => rfl))) (pg_name (i := 3) nd rfl (.inl rfl))
          (pss_one (ps_expr (pe_bm PySem.F.plainAttrs_list PySem.F.slot_list_append PySem.F.type_list_append mt_append (pe_dget hu (pv 1) (pv 3) (fun _ _ => rfl)) (pa_cons (pv 2) pa_nil))))))))
      (pss_one (ps_ret (pv 1))))), ?_⟩
    have hsz : ws.length < sizeLine := small1000 (by omega)
    refine ⟨m, _, lm.top, trivial, fun od => ?_⟩
    have mD : ∀ {q : Addr}, H q = none → q ≠ m := fun {q} e z => by rw [z, lm.top] at e; cases e
    have flk : ∀ {G : Hp} {o : Obj}, SameX m H G → Same H (upd G m (.dK (kvT (fun i => V.ref (ls i)) ws ws.length))) := fun {G o} sx a u e => by
      by_cases z : a = m
      · subst z
        rw [upd_same, ← lm.top, e]
      · rw [upd_ne z]
        exact sx a u z e
    refine ⟨_, rfl, m, od, rfl, .inl ⟨_, upd_same, fun D hD => ?_⟩⟩
    have hDm : D ≠ m := fun z => by rw [z, upd_same] at hD; cases hD
    have hDH : H D = none := by rw [upd_ne hDm] at hD; exact hD
    refine dc_it walk_keys (fun t G => ∃ qs : Nat → Addr, G D = some (.dK (kvT (fun i => .ref (qs i)) ws t)) ∧ (∀ i, i < t → G (qs i) = some (.lst []) ∧ H (qs i) = none ∧ qs i ≠ D) ∧ (∀ i j, i < t → j < t → qs i = qs j → i = j) ∧ G m = some (.frz od (.dK (kvT (fun i => V.ref (ls i)) ws ws.length))) ∧ SameX m H G)
      ⟨fun _ => 0, upd_same, (fun i hi => absurd hi (Nat.not_lt_zero _)), (fun i j hi => absurd hi (Nat.not_lt_zero _)), by rw [upd_ne hDm.symm, upd_same], fun a o na e => by rw [upd_ne (ne_of_none e hDH), upd_ne na]; exact e⟩ (fun t G _ ⟨_, _, _, _, e, _⟩ => e) ?_ ?_
    · rintro t x G G0 ht ⟨qs, eD, rows, inj, em, sG⟩ ⟨rfl, k0, v0, ek, rfl⟩
      rw [kvT_len] at ht
      rw [kvT_at ht] at ek
      cases ek
      refine ⟨rfl, _, rfl, (by show 0 ≤ sizeLine; decide), fun D2 hD2 => ?_⟩
      have hDD : D ≠ D2 := fun z => by rw [z, hD2] at eD; cases eD
      have hD2m : D2 ≠ m := fun z => by rw [z, em] at hD2; cases hD2
      have hD2H : H D2 = none := by
        cases e : H D2 with
        | none => rfl
        | some o =>
          have := sG _ _ hD2m e
          rw [hD2] at this
          cases this
      refine ⟨_, .inr (ws.getD t ""), rfl, by rw [upd_ne hDD]; exact eD, by rw [kvT_len]; omega, fun i => if i = t then D2 else qs i, ?_, fun i hi => ?_, fun i j hi hj e => ?_, ?_, ?_⟩
      · rw [upd_same]
        congr 2
        have c := kvT_congr (f := fun i => V.ref (qs i)) (g := fun i => V.ref (if i = t then D2 else qs i)) (ws := ws) (t := t) (fun j hj => by
          have : j ≠ t := by omega
          simp [this])
        rw [c, ← kvT_put_new (f := fun i => V.ref (if i = t then D2 else qs i)) nw ht]
        simp
      · by_cases e : i = t
        · subst e
          simp only [if_true]
          refine ⟨by rw [upd_ne hDD.symm, upd_same], hD2H, hDD.symm⟩
        · simp only [e, if_false]
          obtain ⟨r1, r2, r3⟩ := rows i (by omega)
          refine ⟨by rw [upd_ne r3, upd_ne (ne_of_none r1 hD2)]; exact r1, r2, r3⟩
      · by_cases e1 : i = t <;> by_cases e3 : j = t
        · omega
        · simp only [e1, e3, if_true, if_false] at e
          exfalso
          have := (rows j (by omega)).1
          rw [← e, hD2] at this
          cases this
        · simp only [e1, e3, if_true, if_false] at e
          exfalso
          have := (rows i (by omega)).1
          rw [e, hD2] at this
          cases this
        · simp only [e1, e3, if_false] at e
          exact inj i j (by omega) (by omega) e
      · rw [upd_ne hDm.symm, upd_ne hD2m.symm]
        exact em
      · intro b2 o2 nb e
        rw [upd_ne (ne_of_none e hDH), upd_ne (ne_of_none e hD2H)]
        exact sG _ _ nb e
    rintro G ⟨qs, eD, rows, inj, em, sG⟩
    rw [kvT_len] at eD rows inj
    have fr : ∀ i, i < ws.length → H (qs i) = none := fun i hi => (rows i hi).2.1
    have S1 : Same H (upd G m (.dK (kvT (fun i => V.ref (ls i)) ws ws.length))) := flk (o := od) sG
    have mat : LisAt (upd G m (.dK (kvT (fun i => V.ref (ls i)) ws ws.length))) D ws qs (fun j => nearOf ws M 0 (ws.getD j "")) := ⟨by rw [upd_ne hDm]; exact eD, fun i hi => by rw [upd_ne (mD (fr i hi))]; exact (rows i hi).1, inj⟩
    refine ⟨em, ?_⟩
    have em2 : (upd G m (.dK (kvT (fun i => V.ref (ls i)) ws ws.length))) m = some (.dK (kvT (fun i => V.ref (ls i)) ws ws.length)) := upd_same
    generalize upd G m (.dK (kvT (fun i => V.ref (ls i)) ws ws.length)) = G1 at S1 mat em2 ⊢
    clear rows em eD sG
    try dsimp only [tNext]
    refine ⟨m, _, em2, trivial, fun od2 => ?_⟩
    refine ⟨_, rfl, m, od2, rfl, .inl ⟨_, upd_same, ?_⟩⟩
    refine for_it walk_keys (fun t σ G => ∃ v2 v3 : Option V, σ = [some (.ref m), some (.ref D), v2, v3] ∧ G m = some (.frz od2 (.dK (kvT (fun i => V.ref (ls i)) ws ws.length))) ∧ SameX m H G ∧ LisAt G D ws qs (fun j => nearOf ws M t (ws.getD j "")))
      ⟨_, _, rfl, upd_same, fun a o na e => by rw [upd_ne na]; exact S1 _ _ e, ⟨by rw [upd_ne hDm]; exact mat.top, fun i hi => by rw [upd_ne (mD (fr i hi))]; exact mat.row i hi, mat.inj⟩⟩ (fun t σ G _ ⟨_, _, _, e, _⟩ => e) ?_ ?_
    · rintro t x σ G G0 ht ⟨v2, v3, rfl, em, sG, mat⟩ ⟨rfl, k0, v0, ek, rfl⟩
      rw [kvT_len] at ht
      rw [kvT_at ht] at ek
      cases ek
      obtain ⟨hM1, hM2⟩ := hM t ht
      have lst : G0 (ls t) = some (.lst ((M t).map V.str)) := sG _ _ (lm.pq ht).symm (lm.row t ht)
      refine ⟨_, rfl, _, rfl, m, _, rfl, dget_frz em (kvT_val nw ht (Nat.le_refl _)), ls t, rfl, ⟨_, SqL.of lst⟩, ?_⟩
      refine for_list (K := K) (a := ls t) (xs := (M t).map V.str) (fun s2 σ G => ∃ v3 : Option V, σ = [some (.ref m), some (.ref D), some (.str (ws.getD t "")), v3] ∧ G m = some (.frz od2 (.dK (kvT (fun i => V.ref (ls i)) ws ws.length))) ∧ SameX m H G ∧ LisAt G D ws qs (fun j => nearOf ws M t (ws.getD j "") ++ (((M t).take s2).filter fun z => z == ws.getD j "").map fun _ => ws.getD t ""))
        ⟨_, rfl, em, sG, mat.congr fun i _ => by rw [List.take_zero]; exact (List.append_nil _).symm⟩ (fun s2 σ G _ ⟨_, _, _, sG, _⟩ => SqL.of (sG _ _ (lm.pq ht).symm (lm.row t ht))) ?_ ?_
      · rintro s2 x σ G hx ⟨v3, rfl, em, sG, mat⟩
        have hs2 : s2 < (M t).length := by
          have := (List.getElem?_eq_some_iff.mp hx).1
          rw [List.length_map] at this
          exact this
        rw [List.getElem?_map, List.getElem?_eq_getElem hs2] at hx
        obtain rfl : V.str (M t)[s2] = x := Option.some.inj hx
        obtain ⟨j, hj, ej⟩ := List.mem_iff_getElem.mp (hM2 _ (List.getElem_mem hs2))
        have gj : (M t)[s2] = ws.getD j "" := by rw [List.getD_eq_getElem?_getD, List.getElem?_eq_getElem hj, ← ej]; rfl
        have d1 : DGet G D (.str (M t)[s2]) (some (.ref (qs j))) := by rw [gj]; exact mat.g1 nw hj
        have r1 := mat.row j hj
        refine ⟨_, rfl, _, rfl, D, _, rfl, d1, .inl ⟨rfl, _, SqL.of r1⟩, ?_⟩
        refine ⟨_, rfl, qs j, _, _, rfl, rfl, r1, ?_, ?_⟩
        · have b1 := nearOf_len (ws := ws) (M := M) (y := ws.getD j "") (t := t) fun i hi => (hM i (by omega)).1
          have b2 := List.length_filter_le (fun z => z == ws.getD j "") ((M t).take s2)
          rw [List.length_take] at b2
          rw [List.length_map, List.length_append, List.length_map, sizeLine_eq]
          have : t * 100000 ≤ 40 * 100000 := Nat.mul_le_mul_right _ (by omega)
          omega
        · have mat2 := mat.put hj (ws.getD t "")
          refine ⟨_, rfl, ?_, fun b2 o2 nb e => ?_, mat2.congr fun i hi => ?_⟩
          · rw [upd_ne (mD (fr j hj)).symm]
            exact em
          · rw [upd_ne (ne_of_none e (fr j hj))]
            exact sG _ _ nb e
          · unfold addM
            rw [List.take_add_one, List.getElem?_eq_getElem hs2, List.filter_append, List.map_append, ← List.append_assoc]
            by_cases c : i = j
            · subst c
              rw [if_pos rfl]
              simp [gj]
            · rw [if_neg c]
              have nz : ¬ (M t)[s2] = ws.getD i "" := fun z => c (getD_inj nw hi hj (by rw [← z, gj]))
              have nz2 : ((M t)[s2] == ws.getD i "") = false := beq_eq_false_iff_ne.mpr nz
              have fl : List.filter (fun z => z == ws.getD i "") (some (M t)[s2]).toList = [] := by
                show List.filter _ [(M t)[s2]] = []
                rw [List.filter_cons, if_neg (by rw [nz2]; decide)]
                rfl
              rw [fl, List.map_nil, List.append_nil]
      · rintro σ G ⟨v3, rfl, em, sG, mat⟩
        rw [List.length_map, List.take_length] at mat
        exact ⟨_, _, rfl, em, sG, mat.congr fun i _ => (nearOf_succ ws M t _).symm⟩
    · rintro σ G ⟨v2, v3, rfl, em, sG, mat⟩
      rw [kvT_len] at mat
      refine ⟨em, ?_⟩
      exact ⟨_, rfl, k D qs _ hDH (flk (o := od2) sG) ⟨by rw [upd_ne hDm]; exact mat.top, fun i hi => by rw [upd_ne (mD (fr i hi))]; exact mat.row i hi, mat.inj⟩ fr⟩
end
end Tg

namespace Tg
open PySem L2 Ow ClX
abbrev pPlanI : Stmt := inClass (top 13) 0
/-- what has been walked: the names in the order they were met, the masks of the ways up, how deep, over whom each was met -/
structure Wkd (first : Str) (N : Str → List Str) (vs : List Str) (A Dp : List Int) (par : Nat → Nat) : Prop where
  nd : vs.Nodup
  hd : vs[0]? = some first
  lA : A.length = vs.length
  lD : Dp.length = vs.length
  a0 : A[0]? = some 1
  d0 : Dp[0]? = some 0
  up : ∀ i, 0 < i → i < vs.length → par i < i ∧ vs.getD i "" ∈ N (vs.getD (par i) "") ∧ A.getD i 0 = Builtin.bitOr (A.getD (par i) 0) (1 * 2 ^ i) ∧ Dp.getD i 0 = Dp.getD (par i) 0 + 1
theorem getD_app1 {α : Type} {l : List α} {x d : α} {i : Nat} (h : i < l.length) : (l ++ [x]).getD i d = l.getD i d := by
  rw [List.getD_eq_getElem?_getD, List.getD_eq_getElem?_getD, List.getElem?_append_left h]
theorem getD_app2 {α : Type} {l : List α} {x d : α} : (l ++ [x]).getD l.length d = x := by
  rw [List.getD_eq_getElem?_getD, List.getElem?_append_right (Nat.le_refl _), Nat.sub_self]
  rfl
theorem Wkd.pos {first : Str} {N : Str → List Str} {vs : List Str} {A Dp : List Int} {par : Nat → Nat} (h : Wkd first N vs A Dp par) : 0 < vs.length := by
  have := h.hd
  cases vs with
  | nil => cases this
  | cons a l => exact Nat.succ_pos _
theorem Wkd.more {first : Str} {N : Str → List Str} {vs : List Str} {A Dp : List Int} {par : Nat → Nat} (h : Wkd first N vs A Dp par) {k : Nat} {y : Str} (hk : k < vs.length) (hy : y ∈ N (vs.getD k "")) (ny : y ∉ vs) :
    Wkd first N (vs ++ [y]) (A ++ [Builtin.bitOr (A.getD k 0) (1 * 2 ^ vs.length)]) (Dp ++ [Dp.getD k 0 + 1]) (fun i => if i = vs.length then k else par i) := by
  obtain ⟨nd, hd, lA, lD, a0, d0, up⟩ := id h
  have hp := h.pos
  refine ⟨?_, ?_, by simp [lA], by simp [lD], ?_, ?_, fun i hi hl => ?_⟩
  · rw [List.nodup_append]
    exact ⟨nd, by simp, fun a ha b hb => by
      rw [List.mem_singleton.mp hb]
      intro z
      exact ny (z ▸ ha)⟩
  · rw [List.getElem?_append_left hp]
    exact hd
  · rw [List.getElem?_append_left (by omega)]
    exact a0
  · rw [List.getElem?_append_left (by omega)]
    exact d0
  · rw [List.length_append] at hl
    by_cases e : i = vs.length
    · subst e
      rw [if_pos rfl, getD_app2, getD_app1 hk]
      refine ⟨hk, hy, ?_, ?_⟩
      · have e1 : (A ++ [Builtin.bitOr (A.getD k 0) (1 * 2 ^ vs.length)]).getD vs.length 0 = Builtin.bitOr (A.getD k 0) (1 * 2 ^ vs.length) := by rw [← lA]; exact getD_app2
        rw [e1, getD_app1 (by omega)]
      · have e1 : (Dp ++ [Dp.getD k 0 + 1]).getD vs.length 0 = Dp.getD k 0 + 1 := by rw [← lD]; exact getD_app2
        rw [e1, getD_app1 (by omega)]
    · have hl2 : i < vs.length := by
        have : ([y] : List Str).length = 1 := rfl
        omega
      obtain ⟨u1, u2, u3, u4⟩ := up i hi hl2
      rw [if_neg e, getD_app1 hl2, getD_app1 (by omega), getD_app1 (by omega), getD_app1 (by omega), getD_app1 (by omega), getD_app1 (by omega)]
      exact ⟨u1, u2, u3, u4⟩
theorem nodup_le {α : Type} [DecidableEq α] : ∀ {l m : List α}, l.Nodup → (∀ x ∈ l, x ∈ m) → l.length ≤ m.length
  | [], m, _, _ => Nat.zero_le _
  | a :: l, m, nd, h => by
    have ha := h a List.mem_cons_self
    obtain ⟨n1, n2⟩ := List.nodup_cons.mp nd
    have h2 := nodup_le (m := m.erase a) n2 fun x hx => by
      have nx : x ≠ a := fun z => n1 (z ▸ hx)
      exact (List.mem_erase_of_ne nx).mpr (h x (List.mem_cons_of_mem _ hx))
    have h3 := List.length_erase_of_mem ha
    have h4 : 0 < m.length := List.length_pos_of_mem ha
    rw [List.length_cons]
    omega
theorem kvT_names {f : Nat → V} {us : List Str} {y : Str} {n : Nat} (h : n ≤ us.length) : kvT f (us ++ [y]) n = kvT f us n := by
  unfold kvT
  refine List.map_congr_left fun j hj => ?_
  have := List.mem_range.mp hj
  rw [getD_app1 (by omega)]
theorem kvT_add {f : Nat → V} {us : List Str} {y : Str} (nd : (us ++ [y]).Nodup) : putK (kvT f us us.length) (.inr y : Key) (f us.length) = kvT f (us ++ [y]) (us ++ [y]).length := by
  have z := kvT_put_new (f := f) (t := us.length) nd (by simp)
  rw [getD_app2, kvT_names (Nat.le_refl _)] at z
  rw [z, List.length_append]
  rfl
theorem atI_map {A : List Int} {k : Nat} (h : k < A.length) : atI (A.map V.int) (k : Int) = some (.int (A.getD k 0)) := by
  refine atI_nat ?_
  rw [List.getElem?_map, List.getD_eq_getElem?_getD, List.getElem?_eq_getElem h]
  rfl
theorem kvT_keys (f : Nat → V) (us : List Str) : (kvT f us us.length).map (fun kv => kV kv.1) = us.map V.str := by
  unfold kvT
  rw [List.map_map]
  refine List.ext_getElem (by simp) fun i h1 h2 => ?_
  have hi : i < us.length := by simpa using h2
  rw [List.getElem_map, List.getElem_map, List.getElem_range]
  show V.str (us.getD i "") = _
  rw [List.getD_eq_getElem?_getD, List.getElem?_eq_getElem hi]
  rfl
/-- all but the places neighbours lead to -/
structure PlanTxt (K : PySem.W.Frag) (CP : Addr) : Prop where
  cl : Cls K CP
  n1 : NoAttr K CP "near"
  n2 : NoAttr K CP "spots"
  n3 : NoAttr K CP "names"
  n4 : NoAttr K CP "above"
  n5 : NoAttr K CP "deep"
/-- a plan where it stands: its dict of places (as the i-th met), the names, the masks, the depths -/
def PlanOf (CP : Addr) (H : Hp) (p nr : Addr) (vs : List Str) (A Dp : List Int) : Prop := ∃ dx p3 p4 p5 pn, H p = some (.ins CP dx (putF "deep" (.ref p5) (putF "above" (.ref p4) (putF "names" (.ref pn) (putF "spots" (.ref p3) (putF "near" (.ref nr) [])))))) ∧
  H p3 = some (.dK (kvT (fun i => .int (i : Nat)) vs vs.length)) ∧ H p4 = some (.lst (A.map V.int)) ∧ H p5 = some (.lst (Dp.map V.int)) ∧ H pn = some (.lst (vs.map V.str))
section
variable {P : Program} {w : World} {K : PySem.W.Frag} {mg : Str → Option Value} {base : Heap} {CP : Addr}
def spPlanI (CP : Addr) : Sp := fun vs H Q _ => ∃ (p dx nr : Addr) (first : Str) (ws : List Str) (ns : Nat → Addr) (N : Str → List Str), vs = [.ref p, .str first, .ref nr] ∧ H p = some (.ins CP dx []) ∧ LisAt H nr ws ns (fun i => N (ws.getD i "")) ∧ ws.Nodup ∧ ws.length ≤ 40 ∧ first ∈ ws ∧ (∀ x ∈ ws, ∀ y ∈ N x, y ∈ ws) ∧
  ∀ us A Dp par H', Wkd first N us A Dp par → (∀ x ∈ us, x ∈ ws) → (∀ x ∈ us, ∀ y ∈ N x, y ∈ us) → PlanOf CP H' p nr us A Dp → (∀ b o, H b = some o → b ≠ p → H' b = some o) → Q .non H'
abbrev plN : List Str := ["self", "first", "near", "spots", "above", "deep", "waiting", "here", "line", "far", "place"]
theorem scPlanI : FnScope plN ["self", "first", "near"] (defScope pPlanI) := ⟨rfl, rfl, rfl, by decide +kernel, rfl, by decide +kernel, by decide +kernel⟩
theorem ok_PlanI {f : Addr} {fd : FuncData} (F : Fun K "__init__" "Plan.__init__" pPlanI f fd) (T : TxtP mg) (TP : PlanTxt K CP) : FnOk P w K mg base CX0 1 f fd ["self", "first", "near"] (spPlanI CP) := by
  refine F.ok scPlanI (fun vs H Q E h => ?_) (fun cdv A outer s H vs Q E hr h => ?_)
  · obtain ⟨p, dx, nr, first, ws, ns, N, rfl, _⟩ := h
    rfl
  · obtain ⟨p, dx, nr, first, ws, ns, N, rfl, hp, lm, nw, hl, hf, hN, k⟩ := h
    have nd := scPlanI.nd
    have hu := hu_of hr
    refine ⟨_, (pss_cons (ps_set (i := 3) nd rfl (.inl rfl) (pe_disp (pps_cons (pv 1) pe_int pps_nil) (by rfl) (by rfl) (fun z => by cases z) (by decide)))
      (pss_cons (ps_set (i := 4) nd rfl (.inl rfl) (pe_lst (pa_cons pe_int pa_nil)))
      (pss_cons (ps_set (i := 5) nd rfl (.inl rfl) (pe_lst (pa_cons pe_int pa_nil)))
      (pss_cons (ps_set (i := 6) nd rfl (.inl rfl) (pe_lst (pa_cons (pv 1) pa_nil)))
      (pss_cons (ps_while PassesOwn.never (pt_truth (pv 6) (by intro _; rfl)) (pss_cons (ps_set (i := 7) nd rfl (.inl rfl) (pe_bm0 PySem.F.plainAttrs_list PySem.F.slot_list_pop PySem.F.type_list_pop mt_pop (pv 6)))
      (pss_cons (ps_set (i := 8) nd rfl (.inl rfl) (pe_ix ix_list (pv 4) (pe_dget hu (pv 3) (pv 7) (fun _ _ => rfl)) (fun _ _ => rfl)))
      (pss_cons (ps_set (i := 9) nd rfl (.inl rfl) (pe_op op_add (pe_ix ix_list (pv 5) (pe_dget hu (pv 3) (pv 7) (fun _ _ => rfl)) (fun _ _ => rfl)) pe_int))
      (pss_one (ps_for PassesOwn.never rfl (pi_list (pe_dget hu (pv 2) (pv 7) (fun _ _ => rfl))) (pg_name (i := 10) nd rfl (.inl rfl)) (pss_one (ps_if (pt_cmp (pc_dnotin hu (pv 10) (pv 3)) rfl) (pss_cons (ps_dput hu (pv 3) (pv 10) (pe_callB call_len_seq (by rfl) T.b_len PySem.boot_len (pa_cons (pv 4) pa_nil)) rfl)
      (pss_cons (ps_expr (pe_bm PySem.F.plainAttrs_list PySem.F.slot_list_append PySem.F.type_list_append mt_append (pv 4) (pa_cons (pe_op op_or (pv 8) (pe_op op_shl pe_int (pe_callB call_len_seq (by rfl) T.b_len PySem.boot_len (pa_cons (pv 4) pa_nil)))) pa_nil)))
      (pss_cons (ps_expr (pe_bm PySem.F.plainAttrs_list PySem.F.slot_list_append PySem.F.type_list_append mt_append (pv 5) (pa_cons (pv 9) pa_nil)))
      (pss_one (ps_expr (pe_bm PySem.F.plainAttrs_list PySem.F.slot_list_append PySem.F.type_list_append mt_append (pv 6) (pa_cons (pv 10) pa_nil))))))) pss_nil))))))))
      (pss_cons (ps_fld (pv 0) (pv 2) rfl)
      (pss_cons (ps_fld (pv 0) (pv 3) rfl)
      (pss_cons (ps_fld (pv 0) (pe_callTy (call_list_dK rfl) (by rfl) T.b_list (by decide +kernel) (pa_cons (pv 3) pa_nil)) rfl)
      (pss_cons (ps_fld (pv 0) (pv 4) rfl)
      (pss_one (ps_fld (pv 0) (pv 5) rfl))))))))))), ?_⟩
    refine fun p3 n3 => ⟨_, rfl, upd_same, [(.inr first, .int 0)], rfl, (by show 1 ≤ 15; decide), ?_⟩
    have s1 : Same H (upd (upd H p3 (.dK [])) p3 (.dK (mergeK [] [((.inr first : Key), V.int 0)]))) := fun b o e => by
      rw [upd_ne (ne_of_none e n3), upd_ne (ne_of_none e n3)]
      exact e
    have e3 : (upd (upd H p3 (.dK [])) p3 (.dK (mergeK [] [((.inr first : Key), V.int 0)]))) p3 = some (.dK (kvT (fun i => .int (i : Nat)) [first] 1)) := upd_same
    generalize upd (upd H p3 (.dK [])) p3 (.dK (mergeK [] [((.inr first : Key), V.int 0)])) = H1 at s1 e3 ⊢
    try dsimp only [tNext]
    refine ⟨(by show 1 ≤ sizeLine; decide), fun p4 n4 => ?_⟩
    have s2 := same_upd (o := .lst [.int 1]) (Same.refl H1) n4
    have e4 : (upd H1 p4 (.lst [.int 1])) p4 = some (.lst (([1] : List Int).map V.int)) := upd_same
    have e3 := s2 _ _ e3
    have n4H := s1.free n4
    have s1 := s1.trans s2
    generalize upd H1 p4 (.lst [.int 1]) = H2 at s1 e3 e4 ⊢
    try dsimp only [tNext]
    refine ⟨(by show 1 ≤ sizeLine; decide), fun p5 n5 => ?_⟩
    have s3 := same_upd (o := .lst [.int 0]) (Same.refl H2) n5
    have e5 : (upd H2 p5 (.lst [.int 0])) p5 = some (.lst (([0] : List Int).map V.int)) := upd_same
    have d45 : p4 ≠ p5 := fun z => by rw [z, n5] at e4; cases e4
    have e3 := s3 _ _ e3
    have e4 := s3 _ _ e4
    have n5H := s1.free n5
    have s1 := s1.trans s3
    generalize upd H2 p5 (.lst [.int 0]) = H3 at s1 e3 e4 e5 ⊢
    try dsimp only [tNext]
    refine ⟨_, rfl, (by show 1 ≤ sizeLine; decide), fun p6 n6 => ?_⟩
    have s4 := same_upd (o := .lst [.str first]) (Same.refl H3) n6
    have e6 : (upd H3 p6 (.lst [.str first])) p6 = some (.lst (([first] : List Str).map V.str)) := upd_same
    have d46 : p4 ≠ p6 := fun z => by rw [z, n6] at e4; cases e4
    have d56 : p5 ≠ p6 := fun z => by rw [z, n6] at e5; cases e5
    have e3 := s4 _ _ e3
    have e4 := s4 _ _ e4
    have e5 := s4 _ _ e5
    have n6H := s1.free n6
    have s1 := s1.trans s4
    generalize upd H3 p6 (.lst [.str first]) = H4 at s1 e3 e4 e5 e6 ⊢
    try dsimp only [tNext]
    clear s2 s3 s4 n4 n5 n6
    have w0 : Wkd first N [first] [1] [0] (fun _ => 0) := ⟨by simp, rfl, rfl, rfl, rfl, rfl, fun i h1 h2 => by
      have : ([first] : List Str).length = 1 := rfl
      omega⟩
    have d34 : p3 ≠ p4 := fun z => by rw [z, e4] at e3; cases e3
    have d35 : p3 ≠ p5 := fun z => by rw [z, e5] at e3; cases e3
    have d36 : p3 ≠ p6 := fun z => by rw [z, e6] at e3; cases e3
    have hsz : ∀ us : List Str, us.Nodup → (∀ x ∈ us, x ∈ ws) → us.length ≤ 40 := fun us h1 h2 => Nat.le_trans (nodup_le h1 h2) hl
    refine ⟨fun m σ G => ∃ (us wt : List Str) (A Dp : List Int) (par : Nat → Nat) (v7 v8 v9 v10 : Option V), σ = [some (.ref p), some (.str first), some (.ref nr), some (.ref p3), some (.ref p4), some (.ref p5), some (.ref p6), v7, v8, v9, v10] ∧ Wkd first N us A Dp par ∧ (∀ x ∈ us, x ∈ ws) ∧ (∀ x ∈ wt, x ∈ us) ∧
      (∀ x ∈ us, x ∉ wt → ∀ y ∈ N x, y ∈ us) ∧ m + 2 * us.length = 2 * ws.length + wt.length ∧ wt.length ≤ us.length ∧ Same H G ∧ G p3 = some (.dK (kvT (fun i => .int (i : Nat)) us us.length)) ∧ G p4 = some (.lst (A.map V.int)) ∧ G p5 = some (.lst (Dp.map V.int)) ∧ G p6 = some (.lst (wt.map V.str)),
      ⟨2 * ws.length - 1, [first], [first], [1], [0], _, _, _, _, _, rfl, w0, fun x hx => by rw [List.mem_singleton.mp hx]; exact hf, fun x hx => hx, fun x hx nx => absurd hx nx, ?_, Nat.le_refl _, s1, e3, e4, e5, e6⟩, ?_⟩
    · have := List.length_pos_of_mem hf
      have e : ([first] : List Str).length = 1 := rfl
      omega
    rintro m σ G ⟨us, wt, A, Dp, par, v7, v8, v9, v10, rfl, wk, uw, wu, cl, hm, hwu, sG, g3, g4, g5, g6⟩
    refine ⟨_, rfl, !(wt.map V.str).isEmpty, .inl ⟨_, SqL.of g6, rfl⟩, ?_⟩
    have u40 := hsz us wk.nd uw
    by_cases hw : wt = []
    case pos =>
      subst hw
      refine iteF ?_
      have q3 : p3 ≠ p := fun z => by rw [z, hp] at n3; cases n3
      have q4 : p4 ≠ p := fun z => by rw [z, hp] at n4H; cases n4H
      have q5 : p5 ≠ p := fun z => by rw [z, hp] at n5H; cases n5H
      try dsimp only [tNext]
      refine ⟨_, rfl, _, rfl, p, CP, dx, [], rfl, sG _ _ hp, TP.cl, TP.n1, (by show 0 < 1000; decide), ?_⟩
      have hp1 : (upd G p (.ins CP dx (putF "near" (.ref nr) []))) p = some (.ins CP dx (putF "near" (.ref nr) [])) := upd_same
      have kp1 : ∀ c o, G c = some o → c ≠ p → (upd G p (.ins CP dx (putF "near" (.ref nr) []))) c = some o := fun c o e n => by rw [upd_ne n]; exact e
      generalize upd G p (.ins CP dx (putF "near" (.ref nr) [])) = G1 at hp1 kp1 ⊢
      try dsimp only [tNext]
      refine ⟨_, rfl, _, rfl, p, CP, dx, _, rfl, hp1, TP.cl, TP.n2, (by show 1 < 1000; decide), ?_⟩
      have hp2 : (upd G1 p (.ins CP dx (putF "spots" (.ref p3) (putF "near" (.ref nr) [])))) p = some (.ins CP dx (putF "spots" (.ref p3) (putF "near" (.ref nr) []))) := upd_same
      have kp2 : ∀ c o, G c = some o → c ≠ p → (upd G1 p (.ins CP dx (putF "spots" (.ref p3) (putF "near" (.ref nr) [])))) c = some o := fun c o e n => by rw [upd_ne n]; exact kp1 c o e n
      generalize upd G1 p (.ins CP dx (putF "spots" (.ref p3) (putF "near" (.ref nr) []))) = G2 at hp2 kp2 ⊢
      try dsimp only [tNext]
      refine ⟨_, rfl, p3, _, rfl, kp2 _ _ g3 q3, fun pn nn => ?_⟩
      rw [kvT_keys]
      have s5 := same_upd (o := .lst (us.map V.str)) (Same.refl G2) nn
      have en : (upd G2 pn (.lst (us.map V.str))) pn = some (.lst (us.map V.str)) := upd_same
      have pnp : pn ≠ p := fun z => by rw [z, hp2] at nn; cases nn
      have hp3 := s5 _ _ hp2
      have kp3 : ∀ c o, G c = some o → c ≠ p → (upd G2 pn (.lst (us.map V.str))) c = some o := fun c o e n => s5 _ _ (kp2 c o e n)
      generalize upd G2 pn (.lst (us.map V.str)) = G3 at hp3 kp3 en ⊢
      refine ⟨_, rfl, p, CP, dx, _, rfl, hp3, TP.cl, TP.n3, (by show 2 < 1000; decide), ?_⟩
      try dsimp only [tNext]
      refine ⟨_, rfl, _, rfl, p, CP, dx, _, rfl, upd_same, TP.cl, TP.n4, (by show 3 < 1000; decide), ?_⟩
      try dsimp only [tNext]
      refine ⟨_, rfl, _, rfl, p, CP, dx, _, rfl, upd_same, TP.cl, TP.n5, (by show 4 < 1000; decide), ?_⟩
      refine k us A Dp par _ wk uw (fun x hx => cl x hx (fun z => by cases z)) ⟨dx, p3, p4, p5, pn, upd_same, ?_, ?_, ?_, ?_⟩ fun b o e nb => ?_
      · rw [upd_ne q3, upd_ne q3, upd_ne q3]
        exact kp3 _ _ g3 q3
      · rw [upd_ne q4, upd_ne q4, upd_ne q4]
        exact kp3 _ _ g4 q4
      · rw [upd_ne q5, upd_ne q5, upd_ne q5]
        exact kp3 _ _ g5 q5
      · rw [upd_ne pnp, upd_ne pnp, upd_ne pnp]
        exact en
      · rw [upd_ne nb, upd_ne nb, upd_ne nb]
        exact kp3 _ _ (sG _ _ e) nb
    obtain ⟨wt0, here, rfl⟩ : ∃ wt0 here, wt = wt0 ++ [here] := ⟨wt.dropLast, wt.getLast hw, (List.dropLast_concat_getLast hw).symm⟩
    have et : (!((wt0 ++ [here]).map V.str).isEmpty) = true := by simp
    rw [et]
    refine iteT ⟨_, fun _ _ h => h, ?_⟩
    have hu1 : here ∈ us := wu here (by simp)
    obtain ⟨kk, hk, ek⟩ := List.mem_iff_getElem.mp hu1
    have gk : us.getD kk "" = here := by rw [List.getD_eq_getElem?_getD, List.getElem?_eq_getElem hk, ← ek]; rfl
    obtain ⟨jj, hj, ej⟩ := List.mem_iff_getElem.mp (uw here hu1)
    have gj : here = ws.getD jj "" := by rw [List.getD_eq_getElem?_getD, List.getElem?_eq_getElem hj, ← ej]; rfl
    refine ⟨_, rfl, .inl ⟨rfl, _, SqL.of g6⟩, ?_⟩
    refine ⟨p6, _, .str here, rfl, rfl, g6, by simp, ?_⟩
    have eD : ((wt0 ++ [here]).map V.str).dropLast = wt0.map V.str := by simp
    rw [eD]
    have s6 : Same H (upd G p6 (.lst (wt0.map V.str))) := fun b o e => by
      rw [upd_ne (ne_of_none e n6H)]
      exact sG _ _ e
    have h3 : (upd G p6 (.lst (wt0.map V.str))) p3 = some (.dK (kvT (fun i => .int (i : Nat)) us us.length)) := by rw [upd_ne d36]; exact g3
    have h4 : (upd G p6 (.lst (wt0.map V.str))) p4 = some (.lst (A.map V.int)) := by rw [upd_ne d46]; exact g4
    have h5 : (upd G p6 (.lst (wt0.map V.str))) p5 = some (.lst (Dp.map V.int)) := by rw [upd_ne d56]; exact g5
    have h6 : (upd G p6 (.lst (wt0.map V.str))) p6 = some (.lst (wt0.map V.str)) := upd_same
    generalize upd G p6 (.lst (wt0.map V.str)) = G1 at s6 h3 h4 h5 h6 ⊢
    try dsimp only [tNext]
    have dg : DGet G1 p3 (.str here) (some (.int (kk : Nat))) := by
      rw [← gk]
      exact dget_of (k := .inr (us.getD kk "")) h3 (kvT_val wk.nd hk (Nat.le_refl _))
    refine ⟨_, rfl, _, rfl, _, rfl, p3, _, rfl, dg, p4, _, _, _, rfl, rfl, SqL.of h4, atI_map (by rw [wk.lA]; exact hk), ?_⟩
    try dsimp only [tNext]
    refine ⟨_, rfl, _, rfl, _, rfl, p3, _, rfl, dg, p5, _, _, _, rfl, rfl, SqL.of h5, atI_map (by rw [wk.lD]; exact hk), _, _, rfl, rfl, ?_⟩
    try dsimp only [tNext]
    have lm1 := lm.same s6
    have dn : DGet G1 nr (.str here) (some (.ref (ns jj))) := by rw [gj]; exact lm1.g1 nw hj
    have rn := lm.row jj hj
    rw [← gj] at rn
    refine ⟨_, rfl, _, rfl, nr, _, rfl, dn, ns jj, rfl, ⟨_, SqL.of (s6 _ _ rn)⟩, ?_⟩
    refine for_list (K := K) (a := ns jj) (xs := (N here).map V.str) (fun s2 σ G => ∃ (us' wt' : List Str) (A' Dp' : List Int) (par' : Nat → Nat) (v10 : Option V), σ = [some (.ref p), some (.str first), some (.ref nr), some (.ref p3), some (.ref p4), some (.ref p5), some (.ref p6), some (.str here), some (.int (A.getD kk 0)), some (.int (Dp.getD kk 0 + 1)), v10] ∧ Wkd first N us' A' Dp' par' ∧ (∀ x ∈ us', x ∈ ws) ∧ (∀ x ∈ wt', x ∈ us') ∧
      (∀ x ∈ us', x ∉ wt' → x ≠ here → ∀ y ∈ N x, y ∈ us') ∧ (∀ y ∈ (N here).take s2, y ∈ us') ∧ wt'.length + us.length = wt0.length + us'.length ∧ us.length ≤ us'.length ∧ Same H G ∧ G p3 = some (.dK (kvT (fun i => .int (i : Nat)) us' us'.length)) ∧ G p4 = some (.lst (A'.map V.int)) ∧ G p5 = some (.lst (Dp'.map V.int)) ∧ G p6 = some (.lst (wt'.map V.str)) ∧
      kk < us'.length ∧ us'.getD kk "" = here ∧ A'.getD kk 0 = A.getD kk 0 ∧ Dp'.getD kk 0 = Dp.getD kk 0)
      ⟨us, wt0, A, Dp, par, _, rfl, wk, uw, fun x hx => wu x (List.mem_append_left _ hx), fun x hx nx nh => cl x hx (fun z => (List.mem_append.mp z).elim nx fun z2 => nh (List.mem_singleton.mp z2)), (fun y hy => by simp at hy), rfl, Nat.le_refl _, s6, h3, h4, h5, h6, hk, gk, rfl, rfl⟩ (fun s2 σ G _ ⟨_, _, _, _, _, _, _, _, _, _, _, _, _, _, sG, _⟩ => SqL.of (sG _ _ rn)) ?_ ?_
    · rintro s2 x σ G hx ⟨us', wt', A', Dp', par', v10, rfl, wk', uw', wu', cl', tk', lc, le, sG, g3, g4, g5, g6, hk', gk', ga, gd⟩
      have hs2 : s2 < (N here).length := by
        have := (List.getElem?_eq_some_iff.mp hx).1
        rw [List.length_map] at this
        exact this
      rw [List.getElem?_map, List.getElem?_eq_getElem hs2] at hx
      obtain rfl : V.str (N here)[s2] = x := Option.some.inj hx
      have my : (N here)[s2] ∈ N here := List.getElem_mem hs2
      have yw : (N here)[s2] ∈ ws := hN here (uw here hu1) _ my
      have tsucc : ∀ {vs : List Str}, (∀ y ∈ (N here).take s2, y ∈ vs) → (N here)[s2] ∈ vs → ∀ y ∈ (N here).take (s2 + 1), y ∈ vs := fun h1 h2 y hy => by
        rw [List.take_add_one, List.getElem?_eq_getElem hs2] at hy
        rcases List.mem_append.mp hy with h | h
        · exact h1 y h
        · simp at h
          rw [h]
          exact h2
      have u40 := hsz us' wk'.nd uw'
      by_cases hin : (N here)[s2] ∈ us'
      · obtain ⟨q, hq, eq⟩ := List.mem_iff_getElem.mp hin
        have gq : (N here)[s2] = us'.getD q "" := by rw [List.getD_eq_getElem?_getD, List.getElem?_eq_getElem hq, ← eq]; rfl
        refine ⟨_, rfl, _, rfl, p3, some (.int (q : Nat)), rfl, by rw [gq]; exact dget_of (k := .inr (us'.getD q "")) g3 (kvT_val wk'.nd hq (Nat.le_refl _)), _, rfl, iteF ?_⟩
        exact ⟨us', wt', A', Dp', par', _, rfl, wk', uw', wu', cl', tsucc tk' hin, lc, le, sG, g3, g4, g5, g6, hk', gk', ga, gd⟩
      · refine ⟨_, rfl, _, rfl, p3, none, rfl, dget_ofN (k := .inr (N here)[s2]) g3 (kvT_none (Nat.le_refl _) (by rw [List.take_length]; exact hin)), _, rfl, iteT ?_⟩
        generalize (N here)[s2] = y at my yw tsucc hin
        have lA' : (A'.map V.int).length = us'.length := by rw [List.length_map, wk'.lA]
        have lD' : (Dp'.map V.int).length = us'.length := by rw [List.length_map, wk'.lD]
        have wn := wk'.more hk' (y := y) (by rw [gk']; exact my) hin
        have ln : (us' ++ [y]).length = us'.length + 1 := by rw [List.length_append]; rfl
        have u41 := hsz (us' ++ [y]) wn.nd fun x hx => by
          rcases List.mem_append.mp hx with h | h
          · exact uw' x h
          · rw [List.mem_singleton.mp h]
            exact yw
        have sml : ∀ n : Nat, n ≤ 100 → n < sizeLine := fun n h => small1000 (by omega)
        have wl : wt'.length ≤ 40 := by
          have h1 : wt0.length + 1 = (wt0 ++ [here]).length := by rw [List.length_append]; rfl
          omega
        refine ⟨_, rfl, p4, _, rfl, .inl (SqL.of g4), _, rfl, _, rfl, p3, upd G p3 (.dK (kvT (fun i => .int (i : Nat)) (us' ++ [y]) (us' ++ [y]).length)), rfl, by rw [lA']; exact dput_of (k := .inr y) g3 (kvT_add (f := fun i => .int (i : Nat)) wn.nd) (by rw [kvT_len]; exact sml _ (by omega)), ?_⟩
        have s7 : Same H (upd G p3 (.dK (kvT (fun i => .int (i : Nat)) (us' ++ [y]) (us' ++ [y]).length))) := fun b o e => by
          rw [upd_ne (ne_of_none e n3)]
          exact sG _ _ e
        have f3 : (upd G p3 (.dK (kvT (fun i => .int (i : Nat)) (us' ++ [y]) (us' ++ [y]).length))) p3 = some (.dK (kvT (fun i => .int (i : Nat)) (us' ++ [y]) (us' ++ [y]).length)) := upd_same
        have f4 : (upd G p3 (.dK (kvT (fun i => .int (i : Nat)) (us' ++ [y]) (us' ++ [y]).length))) p4 = some (.lst (A'.map V.int)) := by rw [upd_ne d34.symm]; exact g4
        have f5 : (upd G p3 (.dK (kvT (fun i => .int (i : Nat)) (us' ++ [y]) (us' ++ [y]).length))) p5 = some (.lst (Dp'.map V.int)) := by rw [upd_ne d35.symm]; exact g5
        have f6 : (upd G p3 (.dK (kvT (fun i => .int (i : Nat)) (us' ++ [y]) (us' ++ [y]).length))) p6 = some (.lst (wt'.map V.str)) := by rw [upd_ne d36.symm]; exact g6
        generalize upd G p3 (.dK (kvT (fun i => .int (i : Nat)) (us' ++ [y]) (us' ++ [y]).length)) = G2 at s7 f3 f4 f5 f6 ⊢
        try dsimp only [tNext]
        refine ⟨_, rfl, .inl ⟨rfl, _, SqL.of f4⟩, _, rfl, _, rfl, p4, _, rfl, .inl (SqL.of f4), _, _, rfl, rfl, ⟨by omega, by rw [lA']; omega, by decide⟩, _, _, rfl, rfl, p4, _, _, rfl, rfl, f4, by rw [lA']; exact sml _ (by omega), ?_⟩
        rw [lA', Int.toNat_natCast, ← ga]
        have eA : (A'.map V.int) ++ [V.int (Builtin.bitOr (A'.getD kk 0) (1 * 2 ^ us'.length))] = (A' ++ [Builtin.bitOr (A'.getD kk 0) (1 * 2 ^ us'.length)]).map V.int := by rw [List.map_append]; rfl
        rw [eA]
        try dsimp only [tNext]
        refine ⟨_, rfl, .inl ⟨rfl, _, SqL.of (by rw [upd_ne d45.symm]; exact f5)⟩, _, rfl, p5, _, _, rfl, rfl, by rw [upd_ne d45.symm]; exact f5, by rw [lD']; exact sml _ (by omega), ?_⟩
        try dsimp only [tNext]
        refine ⟨_, rfl, .inl ⟨rfl, _, SqL.of (by rw [upd_ne d56.symm, upd_ne d46.symm]; exact f6)⟩, _, rfl, p6, _, _, rfl, rfl, by rw [upd_ne d56.symm, upd_ne d46.symm]; exact f6, by rw [List.length_map]; exact sml _ (by omega), ?_⟩
        refine ⟨us' ++ [y], wt' ++ [y], _, _, _, _, by rw [ga]; rfl, wn, fun x hx => ?_, fun x hx => ?_, fun x hx nx nh => ?_, tsucc (fun z hz => List.mem_append_left _ (tk' z hz)) (by simp), ?_, by omega, fun b o e => ?_, ?_, ?_, ?_, ?_, by omega, ?_, ?_, ?_⟩
        · rcases List.mem_append.mp hx with h | h
          · exact uw' x h
          · rw [List.mem_singleton.mp h]
            exact yw
        · rcases List.mem_append.mp hx with h | h
          · exact List.mem_append_left _ (wu' x h)
          · exact List.mem_append_right _ h
        · rcases List.mem_append.mp hx with h | h
          · exact fun z hz => List.mem_append_left _ (cl' x h (fun q => nx (List.mem_append_left _ q)) nh z hz)
          · exact absurd (List.mem_append_right _ h) nx
        · rw [List.length_append, ln]
          show wt'.length + 1 + us.length = _
          omega
        · rw [upd_ne (ne_of_none e n6H), upd_ne (ne_of_none e n5H), upd_ne (ne_of_none e n4H)]
          exact s7 _ _ e
        · rw [upd_ne d36, upd_ne d35, upd_ne d34]
          exact f3
        · rw [upd_ne d46, upd_ne d45, upd_same]
        · rw [upd_ne d56, upd_same, List.map_append, gd]
          rfl
        · rw [upd_same, List.map_append]
          rfl
        · rw [getD_app1 hk']
          exact gk'
        · rw [getD_app1 (by rw [wk'.lA]; exact hk')]
        · rw [getD_app1 (by rw [wk'.lD]; exact hk')]
          exact gd
    · rintro σ G ⟨us', wt', A', Dp', par', v10, rfl, wk', uw', wu', cl', tk', lc, le, sG, g3, g4, g5, g6, hk', gk', ga, gd⟩
      rw [List.length_map, List.take_length] at tk'
      have h1 : wt0.length + 1 = (wt0 ++ [here]).length := by rw [List.length_append]; rfl
      have l2 := nodup_le wk'.nd uw'
      refine ⟨2 * ws.length + wt'.length - 2 * us'.length, by omega, us', wt', A', Dp', par', _, _, _, _, rfl, wk', uw', wu', fun x hx nx => ?_, by omega, by omega, sG, g3, g4, g5, g6⟩
      by_cases e : x = here
      · rw [e]
        exact tk'
      · exact cl' x hx nx e
end
end Tg

namespace Tg
open PySem L2 Ow ClX
/-! ### labels: which places are joined so far -/
def mergeP (p : Nat → Nat) (i j : Nat) : Nat → Nat := fun k => if p k = p j then p i else p k
def ixS (ws : List Str) (x : Str) : Nat := ws.idxOf x
def lab (ws : List Str) (es : List Edg) : Nat → Nat → Nat
  | 0 => fun k => k
  | t + 1 => mergeP (lab ws es t) (ixS ws (es.getD t ("", "")).1) (ixS ws (es.getD t ("", "")).2)
def ringAt (ws : List Str) (es : List Edg) (t : Nat) : Bool := decide (lab ws es t (ixS ws (es.getD t ("", "")).1) = lab ws es t (ixS ws (es.getD t ("", "")).2))
def joinD (ws : List Str) (es : List Edg) : Option (Str × Int) :=
  match (List.range es.length).find? (ringAt ws es) with
  | some t => some ("ring", (t : Int))
  | none => match (List.range ws.length).find? (fun k => decide (lab ws es es.length k ≠ lab ws es es.length 0)) with
    | some k => some ("apart", (k : Int))
    | none => none
theorem ixS_at {ws : List Str} (nd : ws.Nodup) {i : Nat} (hi : i < ws.length) : ixS ws (ws.getD i "") = i := by
  have e : ws.getD i "" = ws[i] := by rw [List.getD_eq_getElem?_getD, List.getElem?_eq_getElem hi]; rfl
  unfold ixS
  rw [e]
  exact nd.idxOf_getElem i hi
theorem ixS_lt {ws : List Str} {x : Str} (h : x ∈ ws) : ixS ws x < ws.length ∧ x = ws.getD (ixS ws x) "" := by
  have h1 : ws.idxOf x < ws.length := List.idxOf_lt_length_of_mem h
  refine ⟨h1, ?_⟩
  unfold ixS
  rw [List.getD_eq_getElem?_getD, List.getElem?_eq_getElem h1]
  exact (List.getElem_idxOf h1).symm
section
variable {P : Program} {w : World} {K : PySem.W.Frag} {mg : Str → Option Value} {base : Heap} {C fI : Addr} {fdI : FuncData}
def spJoin (C : Addr) : Sp := fun vs H Q E => ∃ (ws : List Str) (es : List Edg) (xs : List V) (a b : Addr), vs = [.ref a, .ref b] ∧ H a = some (.tup (ws.map V.str)) ∧ H b = some (.tup xs) ∧ VdA H (es.map edgD) xs ∧ ws.Nodup ∧ 1 ≤ ws.length ∧ ws.length ≤ 40 ∧ (∀ e ∈ es, e.1 ∈ ws ∧ e.2 ∈ ws) ∧
  (joinD ws es = none → ∀ H', Same H H' → Q .non H') ∧ (∀ wd i, joinD ws es = some (wd, i) → Told C (fsW wd i) H E)
abbrev joN : List Str := ["places", "edges", "part", "at", "one", "other", "kept", "lost", "place"]
theorem scJoin : FnScope joN ["places", "edges"] (defScope pJoined) := ⟨rfl, rfl, rfl, by decide +kernel, rfl, by decide +kernel, by decide +kernel⟩
theorem ok_Join {f : Addr} {fd : FuncData} (F : Fun K "check_joined" "check_joined" pJoined f fd) (T : TxtP mg) (W : Rz P w K mg base C fI fdI) : FnOk P w K mg base (L2.CX P w) 3 f fd ["places", "edges"] (spJoin C) := by
  refine F.okX scJoin (fun vs H Q E h => ?_) (fun cdv A outer s H vs Q E hr h => ?_)
  · obtain ⟨ws, es, xs, a, b, rfl, _⟩ := h
    rfl
  · obtain ⟨ws, es, xs, a, b, rfl, ea, eb, hv, nw, l1, l40, hen, kok, kno⟩ := h
    have nd := scJoin.nd
    have hu := hu_of hr
    have lx : xs.length = es.length := by rw [hv.len, List.length_map]
    refine ⟨_, (pss_cons (ps_setDc (n := 2) (own := [("at", 3), ("place", 8)]) (g := gTup K 2 (gCons (gName 3) (gCons (gName 8) gNil))) rfl nd rfl rfl (sw_trueD rfl rfl rfl (by decide +kernel)) (pi_enA (by rfl) T.b_enumerate (pa_cons (pv 0) pa_nil)) (blkOk_by (own := [("at", 3), ("place", 8)]) (N := joN) (sc := defScope pJoined) (by decide +kernel)) (fun _ _ _ _ _ => pg_tupK K (pgs_cons (pg_name (i := 3) nd rfl (.inl rfl)) (pgs_cons (pg_name (i := 8) nd rfl (.inl rfl)) pgs_nil))) (fun _ _ _ _ _ => pts_nil) (fun _ _ _ _ _ => pv 8) (fun _ _ _ _ _ => pv 3))
      (pss_cons (ps_for (passes_of rfl) rfl (pi_enA (by rfl) T.b_enumerate (pa_cons (pv 1) pa_nil)) (pg_tup (by rfl) (pgs_cons (pg_name (i := 3) nd rfl (.inl rfl)) (pgs_cons (pg_tup (by rfl) (pgs_cons (pg_name (i := 4) nd rfl (.inl rfl)) (pgs_cons (pg_name (i := 5) nd rfl (.inl rfl)) pgs_nil))) pgs_nil)))
        (pss_cons (ps_par (i := 6) (j := 7) (by rfl) nd rfl rfl (by decide) rfl rfl (pa_cons (pe_dget hu (pv 2) (pv 4) (fun _ _ => rfl)) (pa_cons (pe_dget hu (pv 2) (pv 5) (fun _ _ => rfl)) pa_nil)) (by rfl))
        (pss_cons (ps_if (pt_cmpR op_eq (pv 6) (pv 7) (nomark _))
            (pss_one (ps_raise rfl (takes_of rfl rfl rfl rfl) (pmk_oex W.T W.iC W.tI W.F1 (hr.mono (by decide)) W.b .nil pass0 (by rfl) W.gm (pa_cons pe_str (pa_cons (pv 3) pa_nil)))))
            pss_nil)
        (pss_one (ps_for (passes_of rfl) rfl (pi_tup (pv 0)) (pg_name (i := 8) nd rfl (.inl rfl))
          (pss_one (ps_if (pt_cmpR op_eq (pe_dget hu (pv 2) (pv 8) (fun _ _ => rfl)) (pv 7) (nomark _))
            (pss_one (ps_dput hu (pv 2) (pv 8) (pv 6) rfl))
            pss_nil)))))))
      (pss_one (ps_for (passes_of rfl) rfl (pi_enA (by rfl) T.b_enumerate (pa_cons (pv 0) pa_nil)) (pg_tup (by rfl) (pgs_cons (pg_name (i := 3) nd rfl (.inl rfl)) (pgs_cons (pg_name (i := 8) nd rfl (.inl rfl)) pgs_nil)))
        (pss_one (ps_if (pt_cmpR op_ne (pe_dget hu (pv 2) (pv 8) (fun _ _ => rfl)) (pe_dget hu (pv 2) (pe_ix ix_tup (pv 0) pe_int (fun _ _ => rfl)) (fun _ _ => rfl)) (nomark _))
            (pss_one (ps_raise rfl (takes_of rfl rfl rfl rfl) (pmk_oex W.T W.iC W.tI W.F1 (hr.mono (by decide)) W.b .nil pass0 (by rfl) W.gm (pa_cons pe_str (pa_cons (pv 3) pa_nil)))))
            pss_nil)))))), ?_⟩
    have lw : (ws.map V.str).length = ws.length := List.length_map ..
    have yat : ∀ {t : Nat} {y0 : V}, t < ws.length → (ws.map V.str)[t]? = some y0 → y0 = V.str (ws.getD t "") := fun {t y0} ht ey => by
      rw [List.getElem?_map, List.getElem?_eq_getElem ht] at ey
      rw [List.getD_eq_getElem?_getD, List.getElem?_eq_getElem ht]
      exact (Option.some.inj ey).symm
    have hsz : ws.length < sizeLine := small1000 (by omega)
    refine ⟨_, rfl, a, _, rfl, .inr ⟨SqT.of ea, fun D hD => ?_⟩⟩
    refine dc_it (walk_enT (xs := ws.map V.str)) (fun t G => G D = some (.dK (kvT (fun i => .int (i : Nat)) ws t)) ∧ Same H G) ⟨upd_same, same_upd (Same.refl _) hD⟩ (fun t G _ ⟨_, sG⟩ => SqT.of (sG _ _ ea)) ?_ ?_
    · rintro t x G G2 ht ⟨eD, sG⟩ ⟨T0, x0, y0, rfl, nT, rfl, ex, ey⟩
      rw [lw] at ht
      obtain rfl : V.int (t : Nat) = x0 := Option.some.inj ex
      have ey2 := yat ht ey
      subst ey2
      refine ⟨T0, _, rfl, SqT.of upd_same, rfl, _, _, rfl, _, _, rfl, rfl, rfl, _, rfl, _, rfl, _, .inr (ws.getD t ""), rfl, by rw [upd_ne (ne_of_none eD nT)]; exact eD, by rw [kvT_len]; omega, ?_, fun c o e => ?_⟩
      · rw [upd_same, kvT_put_new (f := fun i => .int (i : Nat)) nw ht]
      · rw [upd_ne (ne_of_none e hD), upd_ne (ne_of_none (sG _ _ e) nT)]
        exact sG _ _ e
    rintro G ⟨eD, sG⟩
    rw [lw] at eD
    try dsimp only [tNext]
    have dgp : ∀ {G : Hp} {g : Nat → V} {x : Str}, x ∈ ws → G D = some (.dK (kvT g ws ws.length)) → DGet G D (.str x) (some (g (ixS ws x))) := fun {G g x} hx e => by
      obtain ⟨h1, h2⟩ := ixS_lt hx
      have z := dget_of (k := .inr (ws.getD (ixS ws x) "")) e (kvT_val nw h1 (Nat.le_refl _))
      rw [← h2] at z
      exact z
    refine ⟨_, rfl, b, _, rfl, .inr ⟨SqT.of (sG _ _ eb), ?_⟩⟩
    refine for_it (walk_enT (xs := xs)) (fun t σ G => ∃ v3 v4 v5 v6 v7 v8 : Option V, σ = [some (.ref a), some (.ref b), some (.ref D), v3, v4, v5, v6, v7, v8] ∧ Same H G ∧ G D = some (.dK (kvT (fun i => .int (lab ws es t i : Nat)) ws ws.length)) ∧ ∀ j, j < t → ringAt ws es j = false) ⟨_, _, _, _, _, _, rfl, sG, eD, fun j hj => absurd hj (Nat.not_lt_zero _)⟩ (fun t σ G _ ⟨_, _, _, _, _, _, _, s2, _⟩ => SqT.of (s2 _ _ eb)) ?_ ?_
    · rintro t x σ G G2 ht ⟨v3, v4, v5, v6, v7, v8, rfl, sG, eD, hj⟩ ⟨T0, x0, y0, rfl, nT, rfl, ex, ey⟩
      obtain rfl : V.int (t : Nat) = x0 := Option.some.inj ex
      have ht2 : t < es.length := by rw [← lx]; exact ht
      obtain ⟨q, exq, eq⟩ := vdA_edgs hv ht2
      obtain rfl : V.ref q = y0 := by
        have ey : xs[t]? = some y0 := ey
        rw [exq] at ey
        exact Option.some.inj ey
      have mem : es.getD t ("", "") ∈ es := by
        rw [List.getD_eq_getElem?_getD, List.getElem?_eq_getElem ht2]
        exact List.getElem_mem ht2
      obtain ⟨m1, m2⟩ := hen _ mem
      have rdef : ringAt ws es t = decide (lab ws es t (ixS ws (es.getD t ("", "")).1) = lab ws es t (ixS ws (es.getD t ("", "")).2)) := rfl
      have lsucc : lab ws es (t + 1) = mergeP (lab ws es t) (ixS ws (es.getD t ("", "")).1) (ixS ws (es.getD t ("", "")).2) := rfl
      generalize es.getD t ("", "") = ab at eq m1 m2 rdef lsucc
      obtain ⟨one, other⟩ := ab
      have s2 : Same H (upd G T0 (.tup [.int (t : Nat), .ref q])) := same_upd sG (sG.free nT)
      have eT : (upd G T0 (.tup [.int (t : Nat), .ref q])) T0 = some (.tup [.int (t : Nat), .ref q]) := upd_same
      have eD : (upd G T0 (.tup [.int (t : Nat), .ref q])) D = _ := (upd_ne (ne_of_none eD nT)).trans eD
      generalize upd G T0 (.tup [.int (t : Nat), .ref q]) = G3 at s2 eT eD ⊢
      refine ⟨T0, _, rfl, SqT.of eT, rfl, _, _, rfl, _, _, rfl, q, _, rfl, SqT.of (s2 _ _ eq), rfl, _, _, rfl, _, _, rfl, rfl, ?_⟩
      refine ⟨rfl, ?_⟩
      have d1 := dgp m1 eD
      have d2 := dgp m2 eD
      refine ⟨_, rfl, _, rfl, D, _, rfl, d1, _, rfl, _, rfl, D, _, rfl, d2, _, _, rfl, ?_⟩
      generalize eo : ixS ws (one, other).1 = io at d1 rdef lsucc
      generalize ep : ixS ws (one, other).2 = ip at d2 rdef lsucc
      try dsimp only [tNext]
      refine ⟨_, rfl, _, rfl, rfl, _, rfl, ?_⟩
      by_cases c1 : lab ws es t io = lab ws es t ip
      · refine iteTx (decide_eq_true (by rw [c1])) ?_
        have rb : ringAt ws es t = true := by rw [rdef]; exact decide_eq_true c1
        have k := (kno "ring" t (by unfold joinD; rw [find_hit ht2 hj rb])).on s2
        exact ⟨_, rfl, (by show 2 ≤ 1000; decide), mk_told k⟩
      refine iteFx (decide_eq_false fun z => c1 (by
        have z2 := V.int.inj z
        omega)) ?_
      have rb : ringAt ws es t = false := by rw [rdef]; exact decide_eq_false c1
      try dsimp only [tNext]
      refine ⟨_, rfl, a, rfl, ⟨_, SqT.of (s2 _ _ ea)⟩, ?_⟩
      refine for_tup (K := K) (a := a) (xs := ws.map V.str) (fun s σ G => ∃ v8 : Option V, σ = [some (.ref a), some (.ref b), some (.ref D), some (.int (t : Nat)), some (.str (one, other).1), some (.str (one, other).2), some (.int (lab ws es t io : Nat)), some (.int (lab ws es t ip : Nat)), v8] ∧ Same H G ∧
        G D = some (.dK (kvT (fun i => .int ((if i < s ∧ lab ws es t i = lab ws es t ip then lab ws es t io else lab ws es t i : Nat) : Int)) ws ws.length))) ⟨_, rfl, s2, by rw [eD]; congr 2⟩ (fun s σ G _ ⟨_, _, sG, _⟩ => SqT.of (sG _ _ ea)) ?_ ?_
      · rintro s0 x σ G hx ⟨v8, rfl, sG, eD⟩
        have hs : s0 < ws.length := by rw [← lw]; exact (List.getElem?_eq_some_iff.mp hx).1
        have ex2 := yat hs hx
        subst ex2
        have d := dget_of (k := .inr (ws.getD s0 "")) eD (kvT_val nw hs (Nat.le_refl _))
        refine ⟨_, rfl, _, rfl, D, _, rfl, d, _, rfl, rfl, _, rfl, ?_⟩
        have nlt : ¬ (s0 < s0 ∧ lab ws es t s0 = lab ws es t ip) := fun z => absurd z.1 (Nat.lt_irrefl _)
        rw [if_neg nlt]
        by_cases c2 : lab ws es t s0 = lab ws es t ip
        · refine iteTx (decide_eq_true (by rw [c2])) ?_
          refine ⟨_, rfl, _, rfl, _, rfl, D, _, rfl, dput_of (k := .inr (ws.getD s0 "")) eD (kvT_put nw hs (Nat.le_refl _) _) (by rw [kvT_len]; exact hsz), ?_⟩
          refine ⟨_, rfl, fun c o e => by rw [upd_ne (ne_of_none e hD)]; exact sG _ _ e, ?_⟩
          rw [upd_same]
          congr 2
          refine kvT_congr fun j hj => ?_
          unfold setF
          by_cases cj : j = s0
          · subst cj
            rw [if_pos rfl, if_pos ⟨Nat.lt_succ_self _, c2⟩]
          · rw [if_neg cj]
            dsimp only
            by_cases c3 : j < s0 ∧ lab ws es t j = lab ws es t ip
            · rw [if_pos c3, if_pos ⟨by omega, c3.2⟩]
            · rw [if_neg c3, if_neg fun z => c3 ⟨by omega, z.2⟩]
        · refine iteFx (decide_eq_false fun z => c2 (by
            have z2 := V.int.inj z
            omega)) ?_
          refine ⟨_, rfl, sG, ?_⟩
          rw [eD]
          congr 2
          refine kvT_congr fun j hj => ?_
          by_cases c3 : j < s0 ∧ lab ws es t j = lab ws es t ip
          · rw [if_pos c3, if_pos ⟨by omega, c3.2⟩]
          · rw [if_neg c3, if_neg fun z => c3 ⟨by
              by_cases cj : j = s0
              · subst cj
                exact absurd z.2 c2
              · omega, z.2⟩]
      · rintro σ G ⟨v8, rfl, sG, eD⟩
        refine ⟨_, _, _, _, _, _, rfl, sG, ?_, fun j hj2 => ?_⟩
        · rw [eD, lw]
          congr 2
          refine kvT_congr fun j hj => ?_
          rw [lsucc]
          unfold mergeP
          by_cases c3 : lab ws es t j = lab ws es t ip
          · rw [if_pos ⟨hj, c3⟩, if_pos c3]
          · rw [if_neg fun z => c3 z.2, if_neg c3]
        · by_cases e : j = t
          · rw [e]; exact rb
          · exact hj j (by omega)
    · rintro σ G ⟨v3, v4, v5, v6, v7, v8, rfl, sG, eD, hj⟩
      rw [lx] at eD hj
      have nr := find_no hj
      try dsimp only [tNext]
      refine ⟨_, rfl, a, _, rfl, .inr ⟨SqT.of (sG _ _ ea), ?_⟩⟩
      refine for_it (walk_enT (xs := ws.map V.str)) (fun t σ G => ∃ v3 v8 : Option V, σ = [some (.ref a), some (.ref b), some (.ref D), v3, v4, v5, v6, v7, v8] ∧ Same H G ∧ G D = some (.dK (kvT (fun i => .int (lab ws es es.length i : Nat)) ws ws.length)) ∧ ∀ j, j < t → decide (lab ws es es.length j ≠ lab ws es es.length 0) = false) ⟨_, _, rfl, sG, eD, fun j hj => absurd hj (Nat.not_lt_zero _)⟩ (fun t σ G _ ⟨_, _, _, s2, _⟩ => SqT.of (s2 _ _ ea)) ?_ ?_
      · rintro t x σ G G2 ht ⟨v3, v8, rfl, sG, eD, hj2⟩ ⟨T0, x0, y0, rfl, nT, rfl, ex, ey⟩
        rw [lw] at ht
        obtain rfl : V.int (t : Nat) = x0 := Option.some.inj ex
        have ey2 := yat ht ey
        subst ey2
        have s2 : Same H (upd G T0 (.tup [.int (t : Nat), V.str (ws.getD t "")])) := same_upd sG (sG.free nT)
        have eT : (upd G T0 (.tup [.int (t : Nat), V.str (ws.getD t "")])) T0 = some (.tup [.int (t : Nat), V.str (ws.getD t "")]) := upd_same
        have eD : (upd G T0 (.tup [.int (t : Nat), V.str (ws.getD t "")])) D = _ := (upd_ne (ne_of_none eD nT)).trans eD
        generalize upd G T0 (.tup [.int (t : Nat), V.str (ws.getD t "")]) = G3 at s2 eT eD ⊢
        refine ⟨T0, _, rfl, SqT.of eT, rfl, _, _, rfl, _, _, rfl, rfl, ?_⟩
        have d1 := dget_of (k := .inr (ws.getD t "")) eD (kvT_val nw ht (Nat.le_refl _))
        have d0 := dget_of (k := .inr (ws.getD 0 "")) eD (kvT_val nw (show 0 < ws.length by omega) (Nat.le_refl _))
        have a0 : atI (ws.map V.str) 0 = some (V.str (ws.getD 0 "")) := by
          refine atI_nat (j := 0) ?_
          rw [List.getElem?_map, List.getD_eq_getElem?_getD, List.getElem?_eq_getElem (by omega)]
          rfl
        refine ⟨_, rfl, _, rfl, D, _, rfl, d1, _, rfl, _, rfl, a, _, _, _, rfl, rfl, SqT.of (s2 _ _ ea), a0, D, _, rfl, d0, rfl, _, rfl, ?_⟩
        by_cases c1 : lab ws es es.length t = lab ws es es.length 0
        · refine iteFx (by rw [c1]; simp) ?_
          refine ⟨_, _, rfl, s2, eD, fun j hj3 => ?_⟩
          by_cases e : j = t
          · rw [e]
            exact decide_eq_false fun z => z c1
          · exact hj2 j (by omega)
        · refine iteTx (by
            have : ¬ V.int ((lab ws es es.length t : Nat) : Int) = V.int ((lab ws es es.length 0 : Nat) : Int) := fun z => c1 (by
              have z2 := V.int.inj z
              omega)
            rw [decide_eq_false this]
            rfl) ?_
          have k := (kno "apart" t (by unfold joinD; rw [nr, find_hit ht hj2 (decide_eq_true c1)])).on s2
          exact ⟨_, rfl, (by show 2 ≤ 1000; decide), mk_told k⟩
      · rintro σ G ⟨v3, v8, rfl, sG, eD, hj2⟩
        rw [lw] at hj2
        exact kok (by unfold joinD; rw [nr, find_no hj2]) G sG
end
end Tg

namespace Tg
open PySem L2 Ow
/-! ### all places met, one edge fewer than places: no ring, nothing apart -/
theorem merge_eq {p : Nat → Nat} {i j a b : Nat} (h : p a = p b) : mergeP p i j a = mergeP p i j b := by
  unfold mergeP
  rw [h]
theorem merge_ij {p : Nat → Nat} {i j : Nat} : mergeP p i j i = mergeP p i j j := by
  unfold mergeP
  rw [if_pos rfl]
  split
  · rfl
  · rfl
theorem lab_mono {ws : List Str} {es : List Edg} {a b t : Nat} (h : lab ws es t a = lab ws es t b) : ∀ d, lab ws es (t + d) a = lab ws es (t + d) b
  | 0 => h
  | d + 1 => merge_eq (lab_mono h d)
theorem lab_edge {ws : List Str} {es : List Edg} {t : Nat} (ht : t < es.length) : lab ws es es.length (ixS ws (es.getD t ("", "")).1) = lab ws es es.length (ixS ws (es.getD t ("", "")).2) := by
  have h : lab ws es (t + 1) (ixS ws (es.getD t ("", "")).1) = lab ws es (t + 1) (ixS ws (es.getD t ("", "")).2) := merge_ij
  have z := lab_mono h (es.length - (t + 1))
  rw [show t + 1 + (es.length - (t + 1)) = es.length by omega] at z
  exact z
theorem mate_edge {es : List Edg} {x y : Str} (h : y ∈ mateOf es x) : ∃ t, t < es.length ∧ (es.getD t ("", "") = (x, y) ∨ es.getD t ("", "") = (y, x)) := by
  unfold mateOf at h
  obtain ⟨e, he, hy⟩ := List.mem_flatMap.mp h
  obtain ⟨t, ht, et⟩ := List.mem_iff_getElem.mp he
  have g : es.getD t ("", "") = e := by rw [List.getD_eq_getElem?_getD, List.getElem?_eq_getElem ht, et]; rfl
  refine ⟨t, ht, ?_⟩
  rw [g]
  obtain ⟨a, b⟩ := e
  rcases List.mem_append.mp hy with h1 | h1
  · split at h1
    · rename_i c
      left
      have c : a = x := c
      rw [List.mem_singleton.mp h1, c]
    · cases h1
  · split at h1
    · rename_i c
      right
      have c : b = x := c
      rw [List.mem_singleton.mp h1, c]
    · cases h1
theorem near_mem {ws : List Str} {M : Nat → List Str} {n : Nat} {x y : Str} (h : y ∈ nearOf ws M n x) : ∃ i, i < n ∧ x ∈ M i ∧ y = ws.getD i "" := by
  unfold nearOf at h
  obtain ⟨i, hi, hy⟩ := List.mem_flatMap.mp h
  obtain ⟨z, hz, e⟩ := List.mem_map.mp hy
  obtain ⟨h1, h2⟩ := List.mem_filter.mp hz
  have : z = x := by simpa using h2
  exact ⟨i, List.mem_range.mp hi, this ▸ h1, e.symm⟩
theorem near_lab {ws : List Str} {es : List Edg} {x y : Str} (h : y ∈ nearOf ws (fun i => mateOf es (ws.getD i "")) ws.length x) : lab ws es es.length (ixS ws y) = lab ws es es.length (ixS ws x) := by
  obtain ⟨i, _, hx, e⟩ := near_mem h
  obtain ⟨t, ht, c⟩ := mate_edge hx
  have z := lab_edge (ws := ws) ht
  rcases c with c | c <;> rw [c] at z
  · rw [e]; exact z
  · rw [e]; exact z.symm
theorem walked_lab {ws : List Str} {es : List Edg} {first : Str} {us : List Str} {A Dp : List Int} {par : Nat → Nat} (h : Wkd first (nearOf ws (fun i => mateOf es (ws.getD i "")) ws.length) us A Dp par) :
    ∀ n i, i < n → i < us.length → lab ws es es.length (ixS ws (us.getD i "")) = lab ws es es.length (ixS ws first)
  | 0, i, hi, _ => absurd hi (Nat.not_lt_zero _)
  | n + 1, i, hi, hu => by
    by_cases z : i = 0
    · subst z
      have : us.getD 0 "" = first := by rw [List.getD_eq_getElem?_getD, h.hd]; rfl
      rw [this]
    · obtain ⟨u1, u2, _, _⟩ := h.up i (by omega) hu
      rw [near_lab u2]
      exact walked_lab h n (par i) (by omega) (by omega)
theorem all_met {us ws : List Str} (nd : us.Nodup) (h : ∀ x ∈ us, x ∈ ws) (e : us.length = ws.length) : ∀ x ∈ ws, x ∈ us := fun x hx => by
  by_cases c : x ∈ us
  · exact c
  exfalso
  have n2 : (x :: us).Nodup := List.nodup_cons.mpr ⟨c, nd⟩
  have := nodup_le n2 (m := ws) fun y hy => by
    rcases List.mem_cons.mp hy with rfl | hy
    · exact hx
    · exact h y hy
  rw [List.length_cons] at this
  omega
/-- labels that are taken, all different: a merge takes at most one away, a ring none -/
theorem taken (ws : List Str) (es : List Edg) (n : Nat) : ∀ t, ∃ L : List Nat, L.Nodup ∧ (∀ l ∈ L, ∃ k, k < n ∧ lab ws es t k = l) ∧ n + ((List.range t).filter (ringAt ws es)).length ≤ L.length + t
  | 0 => ⟨List.range n, List.nodup_range, fun l hl => ⟨l, List.mem_range.mp hl, rfl⟩, by simp⟩
  | t + 1 => by
    obtain ⟨L, nd, hL, hc⟩ := taken ws es n t
    have e : lab ws es (t + 1) = mergeP (lab ws es t) (ixS ws (es.getD t ("", "")).1) (ixS ws (es.getD t ("", "")).2) := rfl
    have r : ringAt ws es t = decide (lab ws es t (ixS ws (es.getD t ("", "")).1) = lab ws es t (ixS ws (es.getD t ("", "")).2)) := rfl
    generalize ixS ws (es.getD t ("", "")).1 = i at e r
    generalize ixS ws (es.getD t ("", "")).2 = j at e r
    have fl : ((List.range (t + 1)).filter (ringAt ws es)).length = ((List.range t).filter (ringAt ws es)).length + (if ringAt ws es t = true then 1 else 0) := by
      rw [List.range_succ, List.filter_append, List.length_append]
      congr 1
      rw [List.filter_cons]
      split <;> rfl
    rw [fl, e, r]
    by_cases c : lab ws es t i = lab ws es t j
    · rw [decide_eq_true c, if_pos rfl]
      refine ⟨L, nd, fun l hl => ?_, by omega⟩
      obtain ⟨k, hk, ek⟩ := hL l hl
      refine ⟨k, hk, ?_⟩
      unfold mergeP
      split
      · rename_i q
        rw [c, ← q, ek]
      · exact ek
    · rw [decide_eq_false c, if_neg (by decide)]
      refine ⟨L.erase (lab ws es t j), nd.erase _, fun l hl => ?_, ?_⟩
      · have hl1 := List.mem_of_mem_erase hl
        have hne : l ≠ lab ws es t j := fun z => by
          rw [z] at hl
          exact (List.Nodup.not_mem_erase nd) hl
        obtain ⟨k, hk, ek⟩ := hL l hl1
        refine ⟨k, hk, ?_⟩
        unfold mergeP
        rw [if_neg (by rw [ek]; exact hne)]
        exact ek
      · have := List.length_erase_le (a := lab ws es t j) (l := L)
        have h2 : L.length ≤ (L.erase (lab ws es t j)).length + 1 := by
          by_cases m : lab ws es t j ∈ L
          · rw [List.length_erase_of_mem m]
            omega
          · rw [List.erase_of_not_mem m]
            omega
        omega
theorem whole_join {ws : List Str} {es : List Edg} {first : Str} {us : List Str} {A Dp : List Int} {par : Nat → Nat} (nw : ws.Nodup) (h : Wkd first (nearOf ws (fun i => mateOf es (ws.getD i "")) ws.length) us A Dp par)
    (hu : ∀ x ∈ us, x ∈ ws) (e1 : us.length = ws.length) (e2 : es.length + 1 = ws.length) : joinD ws es = none := by
  have met := all_met h.nd hu e1
  have same : ∀ k, k < ws.length → lab ws es es.length k = lab ws es es.length (ixS ws first) := fun k hk => by
    have mk : ws.getD k "" ∈ ws := by
      rw [List.getD_eq_getElem?_getD, List.getElem?_eq_getElem hk]
      exact List.getElem_mem hk
    obtain ⟨i, hi, ei⟩ := List.mem_iff_getElem.mp (met _ mk)
    have gi : us.getD i "" = ws.getD k "" := by rw [List.getD_eq_getElem?_getD, List.getElem?_eq_getElem hi, ← ei]; rfl
    have z := walked_lab h us.length i hi hi
    rw [gi, ixS_at nw hk] at z
    exact z
  obtain ⟨L, nd, hL, hc⟩ := taken ws es ws.length es.length
  have l1 : L.length ≤ 1 := by
    have := nodup_le nd (m := [lab ws es es.length (ixS ws first)]) fun l hl => by
      obtain ⟨k, hk, ek⟩ := hL l hl
      rw [← ek, same k hk]
      exact List.mem_singleton.mpr rfl
    exact this
  have f0 : (List.range es.length).filter (ringAt ws es) = [] := List.length_eq_zero_iff.mp (by omega)
  have nr : ∀ j, j < es.length → ringAt ws es j = false := fun j hj => by
    cases c : ringAt ws es j
    · rfl
    · have : j ∈ (List.range es.length).filter (ringAt ws es) := List.mem_filter.mpr ⟨List.mem_range.mpr hj, c⟩
      rw [f0] at this
      cases this
  unfold joinD
  rw [find_no nr]
  have na : (List.range ws.length).find? (fun k => decide (lab ws es es.length k ≠ lab ws es es.length 0)) = none := find_no fun k hk => decide_eq_false fun z => z (by rw [same k hk, same 0 (by omega)])
  rw [na]
end Tg

namespace Tg
open PySem L2 Ow ClX
abbrev pTI : Stmt := inClass (top 23) 0
/-- a call of a def that may raise -/
structure CalX (P : Program) (w : World) (K : PySem.W.Frag) (mg : Str → Option Value) (base : Heap) (k : Nat) (x : Str) (ps : List Str) (sp : Sp) : Prop where
  ex : ∃ f fd, FnOk P w K mg base (L2.CX P w) k f fd ps sp ∧ mg x = some (.ref f) ∧ PySem.W.keepIn K (.ref f) = true ∧ Binds K fd ps []
section
variable {X : Cx} {k : Nat} {x : Str} {ps : List Str} {sp : Sp} {p pos : Pos} {e : Expr} {es : List Expr} {t : TA} {E : XK}
theorem pe_calX (c : CalX X.prog X.w X.K X.mg X.base k x ps sp) (tk : Takes X (fun cls d _ H => E cls d H)) (hr : Room k X.A) (hg : Gl X x) (ha : PA X (e :: es) t) (hdb : (x == ("__debug__" : Str)) = false := by decide)
    (he : starEach (e :: es) X.env = (false, eval e X.env) :: starEach es X.env := by rfl) (hpl : (backTo pos (starEach es X.env)).any (·.1) = false := by rfl) :
    PE X (.Call (.Name x p) (e :: es) [] pos) (tCall sp [] E t) := by
  obtain ⟨f, fd, F, hm, hk, hb⟩ := c.ex
  exact pe_call F hr hg hm hk hb .nil (passOn tk fun _ _ _ h => h) ha hdb he hpl
end
theorem nodup_of {ws : List Str} (h : ∀ i, i < ws.length → (ws.take i).contains (ws.getD i "") = false) : ws.Nodup := by
  rw [List.nodup_iff_pairwise_ne, List.pairwise_iff_getElem]
  intro i j hi hj hij e
  have z := h j hj
  have : ws.getD j "" ∈ ws.take j := by
    rw [List.getD_eq_getElem?_getD, List.getElem?_eq_getElem hj]
    show ws[j] ∈ _
    rw [← e]
    exact List.mem_take_iff_getElem.mpr ⟨i, by omega, rfl⟩
  rw [List.contains_iff_mem.mpr this] at z
  cases z
theorem badW_no {ws : List Str} (h : badW ws = none) : ws.Nodup ∧ ∀ x ∈ ws, isNmS x = true := by
  unfold badW at h
  rw [List.find?_range_eq_none] at h
  have z : ∀ i, i < ws.length → (ws.take i).contains (ws.getD i "") = false ∧ isNmS (ws.getD i "") = true := fun i hi => by
    have := h i hi
    unfold wBad at this
    simp only [Bool.not_or, Bool.not_not, Bool.and_eq_true, Bool.not_eq_true'] at this
    exact this
  refine ⟨nodup_of fun i hi => (z i hi).1, fun x hx => ?_⟩
  obtain ⟨i, hi, e⟩ := List.mem_iff_getElem.mp hx
  have := (z i hi).2
  rw [List.getD_eq_getElem?_getD, List.getElem?_eq_getElem hi] at this
  rw [← e]
  exact this
theorem badE_no {ws : List Str} {es : List Edg} (h : badE ws es = none) : ∀ t, t < es.length → eBad ws es t = false := by
  unfold badE at h
  rw [List.find?_range_eq_none] at h
  intro t ht
  simpa using h t ht
theorem eBad_no {ws : List Str} {es : List Edg} {t : Nat} (h : eBad ws es t = false) : (es.getD t ("", "")).1 ∈ ws ∧ (es.getD t ("", "")).2 ∈ ws ∧ (es.getD t ("", "")).1 ≠ (es.getD t ("", "")).2 ∧ (es.getD t ("", "")).2 ∉ mateOf (es.take t) (es.getD t ("", "")).1 := by
  unfold eBad at h
  simp only [Bool.or_eq_false_iff, Bool.not_eq_false', decide_eq_false_iff_not] at h
  obtain ⟨⟨h1, h2⟩, h3, h4⟩ := h
  refine ⟨List.contains_iff_mem.mp h1, List.contains_iff_mem.mp h2, h3, fun z => ?_⟩
  rw [List.contains_iff_mem.mpr z] at h4
  cases h4
theorem mate_one (a b x : Str) : mateOf [(a, b)] x = (if a = x then [b] else []) ++ (if b = x then [a] else []) := by
  show ((if a = x then [b] else []) ++ (if b = x then [a] else [])) ++ [] = _
  rw [List.append_nil]
theorem mate_sym {es : List Edg} {x y : Str} (h : y ∈ mateOf es x) : x ∈ mateOf es y := by
  unfold mateOf at h ⊢
  obtain ⟨e, he, hy⟩ := List.mem_flatMap.mp h
  refine List.mem_flatMap.mpr ⟨e, he, ?_⟩
  rcases List.mem_append.mp hy with h1 | h1
  · split at h1
    · rename_i c
      rw [List.mem_singleton.mp h1, ← c]
      exact List.mem_append_right _ (by simp)
    · cases h1
  · split at h1
    · rename_i c
      rw [List.mem_singleton.mp h1, ← c]
      exact List.mem_append_left _ (by simp)
    · cases h1
theorem mates_ok {ws : List Str} {es : List Edg} (h : ∀ t, t < es.length → eBad ws es t = false) (x : Str) : ∀ t, t ≤ es.length → (mateOf (es.take t) x).Nodup ∧ ∀ y ∈ mateOf (es.take t) x, y ∈ ws
  | 0, _ => ⟨by simp [mateOf], fun y hy => by simp [mateOf] at hy⟩
  | t + 1, ht => by
    obtain ⟨nd, sub⟩ := mates_ok h x t (by omega)
    obtain ⟨m1, m2, ne, nm⟩ := eBad_no (h t (by omega))
    have ete : es.take (t + 1) = es.take t ++ [es.getD t ("", "")] := by
      rw [List.take_add_one, List.getElem?_eq_getElem (by omega), List.getD_eq_getElem?_getD, List.getElem?_eq_getElem (by omega)]
      rfl
    rw [ete]
    generalize es.getD t ("", "") = ab at m1 m2 ne nm
    obtain ⟨a, b⟩ := ab
    have m1 : a ∈ ws := m1
    have m2 : b ∈ ws := m2
    have ne : a ≠ b := ne
    have nm : b ∉ mateOf (es.take t) a := nm
    rw [mateOf_app, mate_one]
    by_cases c1 : a = x
    · have c2 : ¬ b = x := fun z => ne (c1.trans z.symm)
      rw [if_pos c1, if_neg c2, List.append_nil]
      subst c1
      refine ⟨?_, fun y hy => ?_⟩
      · rw [List.nodup_append]
        exact ⟨nd, by simp, fun y hy z hz e => nm (by rw [← List.mem_singleton.mp hz, ← e]; exact hy)⟩
      · rcases List.mem_append.mp hy with q | q
        · exact sub y q
        · rw [List.mem_singleton.mp q]; exact m2
    · rw [if_neg c1, List.nil_append]
      by_cases c2 : b = x
      · rw [if_pos c2]
        subst c2
        refine ⟨?_, fun y hy => ?_⟩
        · rw [List.nodup_append]
          exact ⟨nd, by simp, fun y hy z hz e => nm (mate_sym (by rw [← List.mem_singleton.mp hz, ← e]; exact hy))⟩
        · rcases List.mem_append.mp hy with q | q
          · exact sub y q
          · rw [List.mem_singleton.mp q]; exact m1
      · rw [if_neg c2, List.append_nil]
        exact ⟨nd, sub⟩
theorem mates_all {ws : List Str} {es : List Edg} (h : badE ws es = none) (l40 : ws.length ≤ 40) (x : Str) : (mateOf es x).length ≤ 40 ∧ ∀ y ∈ mateOf es x, y ∈ ws := by
  have z := mates_ok (badE_no h) x es.length (Nat.le_refl _)
  rw [List.take_length] at z
  exact ⟨Nat.le_trans (nodup_le z.1 z.2) l40, z.2⟩
theorem ends_ok {ws : List Str} {es : List Edg} (h : badE ws es = none) : ∀ e ∈ es, e.1 ∈ ws ∧ e.2 ∈ ws := fun e he => by
  obtain ⟨t, ht, et⟩ := List.mem_iff_getElem.mp he
  obtain ⟨m1, m2, _, _⟩ := eBad_no (badE_no h t ht)
  rw [List.getD_eq_getElem?_getD, List.getElem?_eq_getElem ht] at m1 m2
  rw [← et]
  exact ⟨m1, m2⟩
def sizeT (W : PyData) : Bool := decide (1 ≤ (itemsD W).length) && decide ((itemsD W).length ≤ 40)
/-- the first reason why there is no tree -/
def dueT (W R : PyData) : Option (Str × Int) :=
  if formT W R then
    if sizeT W then
      match badW (strsOf W) with
      | some i => some ("place", (i : Int))
      | none => match badE (strsOf W) (edgsOf R) with
        | some i => some ("edge", (i : Int))
        | none => joinD (strsOf W) (edgsOf R)
    else some ("size", 0)
  else some ("form", 0)
structure TreeTxt (K : PySem.W.Frag) (mg : Str → Option Value) (CT : Addr) : Prop where
  cl : Cls K CT
  n1 : NoAttr K CT "_places"
  n2 : NoAttr K CT "_edges"
  n3 : NoAttr K CT "_shape"
  n4 : NoAttr K CT "plan"
def treeF (wv rv : V) (s pl : Addr) : List (Str × V) := putF "plan" (.ref pl) (putF "_shape" (.ref s) (putF "_edges" rv (putF "_places" wv [])))
/-- a tree of ws and es: its parts, the neighbours, the plan -/
structure TreeOf (CT CP : Addr) (H : Hp) (p a b nr pl : Addr) (ws : List Str) (es : List Edg) (us : List Str) (A Dp : List Int) (ns : Nat → Addr) : Prop where
  top : ∃ dx s, H p = some (.ins CT dx (treeF (.ref a) (.ref b) s pl)) ∧ H s = some (.tup [.ref a, .ref nr])
  near : LisAt H nr ws ns (fun j => nearOf ws (fun i => mateOf es (ws.getD i "")) ws.length (ws.getD j ""))
  plan : PlanOf CP H pl nr us A Dp
def spTI (CT CP CN : Addr) : Sp := fun vs H Q E => ∃ (W R : PyData) (wv rv : V) (p dx : Addr), vs = [.ref p, wv, rv] ∧ H p = some (.ins CT dx []) ∧ Vd H W wv ∧ Vd H R rv ∧ Lim W ∧ Lim R ∧
  (dueT W R = none → ∀ a b nr pl us A Dp par ns H', wv = .ref a → rv = .ref b → Wkd ((strsOf W).getD 0 "") (nearOf (strsOf W) (fun i => mateOf (edgsOf R) ((strsOf W).getD i "")) (strsOf W).length) us A Dp par → (∀ x ∈ us, x ∈ strsOf W) →
    (∀ x ∈ us, ∀ y ∈ nearOf (strsOf W) (fun i => mateOf (edgsOf R) ((strsOf W).getD i "")) (strsOf W).length x, y ∈ us) → TreeOf CT CP H' p a b nr pl (strsOf W) (edgsOf R) us A Dp ns → (∀ c o, H c = some o → c ≠ p → H' c = some o) → Q .non H') ∧
  (∀ wd i, dueT W R = some (wd, i) → Told CN (fsW wd i) H E)
theorem scTI : FnScope ["self", "places", "edges", "near", "plan"] ["self", "places", "edges"] (defScope pTI) := ⟨rfl, rfl, rfl, by decide +kernel, rfl, by decide +kernel, by decide +kernel⟩
section
variable {P : Program} {w : World} {K : PySem.W.Frag} {mg : Str → Option Value} {base : Heap} {CT CP CN fP : Addr} {fdP : FuncData}
theorem ok_TI {f : Addr} {fd : FuncData} (F : Fun K "__init__" "Tree.__init__" pTI f fd) (T : TxtP mg) (TT : TreeTxt K mg CT) (TPl : PlanTxt K CP) (cF : CalX P w K mg base 3 "check_form" ["places", "edges"] (spChkF CN)) (cP : CalX P w K mg base 3 "check_places" ["places"] (spChkP CN)) (cM : CalX P w K mg base 3 "mates_by_place" ["places", "edges"] (spMates CN))
    (cN : Cal P w K mg base 1 "in_place_order" ["mates"] spNear) (cJ : CalX P w K mg base 3 "check_joined" ["places", "edges"] (spJoin CN)) (MP : Mk K CP fP) (FP : FnOk P w K mg base CX0 1 fP fdP ["self", "first", "near"] (spPlanI CP)) (bP : Binds K fdP ["self", "first", "near"] []) (gP : mg "Plan" = some (.ref CP)) :
    FnOk P w K mg base (L2.CX P w) 4 f fd ["self", "places", "edges"] (spTI CT CP CN) := by
  refine F.okX scTI (fun vs H Q E h => ?_) (fun cdv A outer s H vs Q E hr h => ?_)
  · obtain ⟨W, R, wv, rv, p, dx, rfl, _⟩ := h
    rfl
  · obtain ⟨W, R, wv, rv, p, dx, rfl, hp, hw, hrv, lw, lr, kok, kno⟩ := h
    have nd := scTI.nd
    refine ⟨_, (pss_cons (ps_expr (pe_calX (E := E) cF (takes_of rfl rfl rfl rfl) (hr.mono (by decide)) (by rfl) (pa_cons (pv 1) (pa_cons (pv 2) pa_nil))))
      (pss_cons (ps_expr (pe_calX (E := E) cP (takes_of rfl rfl rfl rfl) (hr.mono (by decide)) (by rfl) (pa_cons (pv 1) pa_nil)))
      (pss_cons (ps_set (i := 3) nd rfl (.inl rfl) (pe_cal cN (hr.mono (by decide)) (by rfl) (pa_cons (pe_calX (E := E) cM (takes_of rfl rfl rfl rfl) (hr.mono (by decide)) (by rfl) (pa_cons (pv 1) (pa_cons (pv 2) pa_nil))) pa_nil)))
      (pss_cons (ps_set (i := 4) nd rfl (.inl rfl) (pe_make MP FP (hr.mono (by decide)) (by rfl) gP bP .nil pass0 (pa_cons (pe_ix ix_tup (pv 1) pe_int (fun _ _ => rfl)) (pa_cons (pv 3) pa_nil))))
      (pss_cons (ps_if (PW.pt (pw_or (pt_cmpR op_ne (pe_callB call_lenD (by rfl) T.b_len PySem.boot_len (pa_cons (pe_fld (pv 4) rfl) pa_nil)) (pe_callB call_len_seq (by rfl) T.b_len PySem.boot_len (pa_cons (pv 1) pa_nil)) (nomark _)) (pw_or1 (pt_cmpR op_ne (pe_callB call_len_seq (by rfl) T.b_len PySem.boot_len (pa_cons (pv 2) pa_nil)) (pe_op op_sub (pe_callB call_len_seq (by rfl) T.b_len PySem.boot_len (pa_cons (pv 1) pa_nil)) pe_int) (nomark _)))))
          (pss_one (ps_expr (pe_calX (E := E) cJ (takes_of rfl rfl rfl rfl) (hr.mono (by decide)) (by rfl) (pa_cons (pv 1) (pa_cons (pv 2) pa_nil)))))
          pss_nil)
      (pss_cons (ps_fld (pv 0) (pv 1) rfl)
      (pss_cons (ps_fld (pv 0) (pv 2) rfl)
      (pss_cons (ps_fld (pv 0) (pe_tup (pa_cons (pv 1) (pa_cons (pv 3) pa_nil))) rfl)
      (pss_one (ps_fld (pv 0) (pv 4) rfl)))))))))), ?_⟩
    refine ⟨_, rfl, _, rfl, W, R, wv, rv, rfl, hw, hrv, lw, lr, fun hf H1 s1 => ?_, fun hf => kno _ _ (by unfold dueT; rw [hf]; rfl)⟩
    obtain ⟨f1, f2⟩ := Bool.and_eq_true_iff.mp hf
    obtain ⟨ws, eW, ews⟩ : ∃ ws, W = .tuple (ws.map PyData.str) ∧ ws = strsOf W := ⟨_, strs_back f1, rfl⟩
    obtain ⟨es, eR, ees⟩ : ∃ es, R = .tuple (es.map edgD) ∧ es = edgsOf R := ⟨_, edgs_back f2, rfl⟩
    rw [eW] at hw
    rw [eR] at hrv
    obtain ⟨a, xs, rfl, ea, hs⟩ := hw.tup
    obtain ⟨b, ys, rfl, eb, hy⟩ := hrv.tup
    have exs := vdA_strs hs
    subst exs
    have li : (itemsD W).length = ws.length := by rw [eW]; exact List.length_map ..
    have hl : ws.length ≤ 2000000 := by
      rw [eW] at lw
      have := lw.len
      rw [List.length_map] at this
      exact this
    have hle : es.length ≤ 2000000 := by
      rw [eR] at lr
      have := lr.len
      rw [List.length_map] at this
      exact this
    have hx : ∀ x ∈ ws, 10 * x.length + 10 ≤ 4000000 := fun x hx => by
      rw [eW] at lw
      exact lw.item (d := .str x) (List.mem_map.mpr ⟨x, hx, rfl⟩)
    have sD : sizeT W = true ↔ 1 ≤ ws.length ∧ ws.length ≤ 40 := by
      unfold sizeT
      rw [li]
      simp
    try dsimp only [tNext]
    refine ⟨_, rfl, ws, a, rfl, s1 _ _ ea, hl, hx, fun sz hb H2 s2 => ?_, fun sz i hb => (kno "place" i ?_).on s1, fun sz => (kno "size" 0 ?_).on s1⟩
    rotate_left
    · unfold dueT
      rw [hf, sD.mpr sz, ← ews, hb]
      rfl
    · unfold dueT
      have : sizeT W = false := by
        cases e : sizeT W
        · rfl
        · exact absurd (sD.mp e) sz
      rw [hf, this]
      rfl
    have s02 := s1.trans s2
    obtain ⟨nw, _⟩ := badW_no hb
    try dsimp only [tNext]
    refine ⟨_, rfl, _, rfl, ws, es, ys, a, b, rfl, s02 _ _ ea, s02 _ _ eb, hy.keep s02.tkept, nw, sz.2, hle, fun hb2 mp ls H3 nmp s3 lmt frl => ?_, fun i hb2 => (kno "edge" i ?_).on s02⟩
    rotate_left
    · unfold dueT
      rw [hf, sD.mpr sz, ← ews, hb, ← ees, hb2]
      rfl
    have s03 := s02.trans s3
    have dueJ : dueT W R = joinD ws es := by
      unfold dueT
      rw [hf, sD.mpr sz, ← ews, hb, ← ees, hb2]
      rfl
    refine ⟨ws, mp, ls, _, rfl, lmt, nw, sz.2, fun i hi => ?_, fun nr ns H4 nnr s4 lnr frn => ?_⟩
    · obtain ⟨q1, q2⟩ := mates_all hb2 sz.2 (ws.getD i "")
      exact ⟨by omega, q2⟩
    have s04 := s03.trans s4
    try dsimp only [tNext]
    have ea4 := s04 _ _ ea
    have eb4 := s04 _ _ eb
    have hp4 := s04 _ _ hp
    have a0 : atI (ws.map V.str) 0 = some (V.str (ws.getD 0 "")) := by
      refine atI_nat (j := 0) ?_
      rw [List.getElem?_map, List.getD_eq_getElem?_getD, List.getElem?_eq_getElem (by omega)]
      rfl
    have m0 : ws.getD 0 "" ∈ ws := by
      rw [List.getD_eq_getElem?_getD, List.getElem?_eq_getElem (by omega)]
      exact List.getElem_mem _
    have frP : ∀ {q : Addr}, H4 q = none → q ≠ p := fun {q} e z => by rw [z, hp4] at e; cases e
    refine ⟨_, rfl, a, _, _, _, rfl, rfl, SqT.of ea4, a0, _, rfl, fun o dxo no ndx ne => ?_⟩
    have s5 : Same H4 (upd (upd H4 dxo (.own o)) o (.ins CP dxo [])) := fun c u e => by
      rw [upd_ne (ne_of_none e no), upd_ne (ne_of_none e ndx)]
      exact e
    have op : o ≠ p := frP no
    refine ⟨o, dxo, nr, ws.getD 0 "", ws, ns, nearOf ws (fun i => mateOf es (ws.getD i "")) ws.length, rfl, upd_same, lnr.same s5, nw, sz.2, m0, fun x hx y hy => ?_, fun us A Dp par H5 wk uw cl po kp => ⟨rfl, ?_⟩⟩
    · obtain ⟨i, hi, _, e⟩ := near_mem hy
      rw [e, List.getD_eq_getElem?_getD, List.getElem?_eq_getElem hi]
      exact List.getElem_mem hi
    have s6 : Same H4 H5 := fun c u e => kp c u (s5 _ _ e) (ne_of_none e no)
    have sH5 : Same H H5 := s04.trans s6
    have ea5 := s6 _ _ ea4
    have eb5 := s6 _ _ eb4
    have lnr5 := lnr.same s6
    obtain ⟨dx5, p3, p4, p5, pn, po1, po2, po3, po4, po5⟩ := id po
    have lwV : (ws.map V.str).length = ws.length := List.length_map ..
    have lyV : ys.length = es.length := by rw [hy.len, List.length_map]
    try dsimp only [tNext]
    refine seq_rest (fun σ1 G => σ1 = [some (.ref p), some (.ref a), some (.ref b), some (.ref nr), some (.ref o)] ∧ Same H5 G ∧ joinD ws es = none) ?_ (fun rest => ?_)
    rotate_left
    · have join : ∀ {D : Ends} {σ : L2.St} {G : Hp}, σ[1]? = some (some (.ref a)) → σ[2]? = some (some (.ref b)) → Same H5 G → (∀ G2, Same H5 G2 → joinD ws es = none → D.nx σ G2) → tDrop (tCall (spJoin CN) [] E (tCons (tVar 1) (tCons (tVar 2) tNil))) D σ G := by
        intro D σ G e1 e2 sG kD
        refine ⟨_, e1, _, e2, ws, es, ys, a, b, rfl, sG _ _ ea5, sG _ _ eb5, hy.keep (sH5.trans sG).tkept, nw, sz.1, sz.2, ends_ok hb2, fun hj G2 s7 => kD _ (sG.trans s7) hj, fun wd i hj => (kno wd i (dueJ.trans hj)).on (sH5.trans sG)⟩
      refine ⟨_, rfl, o, CP, dx5, _, _, rfl, po1, TPl.cl, TPl.n2, rfl, p3, _, rfl, po2, _, rfl, a, _, rfl, .inr (SqT.of ea5), rfl, _, rfl, ?_⟩
      rw [kvT_len, lwV]
      by_cases c1 : us.length = ws.length
      · refine iteFx (by rw [c1]; simp) ?_
        refine ⟨_, rfl, b, _, rfl, .inr (SqT.of eb5), _, rfl, a, _, rfl, .inr (SqT.of ea5), _, _, rfl, rfl, rfl, _, rfl, ?_⟩
        rw [lyV, lwV]
        by_cases c2 : es.length + 1 = ws.length
        · refine iteFx (by
            have : (V.int ((es.length : Nat) : Int)) = V.int ((ws.length : Int) - 1) := by
              congr 1
              omega
            rw [this]
            simp) ?_
          exact rest _ _ ⟨rfl, Same.refl _, whole_join nw wk uw c1 c2⟩
        · refine iteTx (by
            have : ¬ (V.int ((es.length : Nat) : Int)) = V.int ((ws.length : Int) - 1) := fun z => c2 (by
              have z2 := V.int.inj z
              omega)
            rw [decide_eq_false this]
            rfl) ?_
          exact join rfl rfl (Same.refl _) fun G2 s7 hj => rest _ _ ⟨rfl, s7, hj⟩
      · refine iteTx (by
          have : ¬ (V.int ((us.length : Nat) : Int)) = V.int ((ws.length : Nat) : Int) := fun z => c1 (by
            have z2 := V.int.inj z
            omega)
          rw [decide_eq_false this]
          rfl) ?_
        exact join rfl rfl (Same.refl _) fun G2 s7 hj => rest _ _ ⟨rfl, s7, hj⟩
    rintro σ1 G ⟨rfl, sG, hj⟩
    try dsimp only [tNext]
    have hpG : G p = some (.ins CT dx []) := sG _ _ (s6 _ _ hp4)
    refine ⟨_, rfl, _, rfl, p, CT, dx, [], rfl, hpG, TT.cl, TT.n1, (by show 0 < 1000; decide), ?_⟩
    try dsimp only [tNext]
    refine ⟨_, rfl, _, rfl, p, CT, dx, _, rfl, upd_same, TT.cl, TT.n2, (by show 1 < 1000; decide), ?_⟩
    have hp2 : (upd (upd G p (.ins CT dx (putF "_places" (.ref a) []))) p (.ins CT dx (putF "_edges" (.ref b) (putF "_places" (.ref a) [])))) p = some (.ins CT dx (putF "_edges" (.ref b) (putF "_places" (.ref a) []))) := upd_same
    have kp2 : ∀ c u, G c = some u → c ≠ p → (upd (upd G p (.ins CT dx (putF "_places" (.ref a) []))) p (.ins CT dx (putF "_edges" (.ref b) (putF "_places" (.ref a) [])))) c = some u := fun c u e n => by
      rw [upd_ne n, upd_ne n]
      exact e
    generalize upd (upd G p (.ins CT dx (putF "_places" (.ref a) []))) p (.ins CT dx (putF "_edges" (.ref b) (putF "_places" (.ref a) []))) = G2 at hp2 kp2 ⊢
    try dsimp only [tNext]
    refine ⟨_, rfl, _, rfl, (by show 2 ≤ sizeLine; decide), fun sh nsh => ?_⟩
    have s8 := same_upd (o := .tup [.ref a, .ref nr]) (Same.refl G2) nsh
    have esh : (upd G2 sh (.tup [.ref a, .ref nr])) sh = some (.tup [.ref a, .ref nr]) := upd_same
    have hp3 := s8 _ _ hp2
    have shp : sh ≠ p := fun z => by rw [z, hp2] at nsh; cases nsh
    have kp3 : ∀ c u, G c = some u → c ≠ p → (upd G2 sh (.tup [.ref a, .ref nr])) c = some u := fun c u e n => s8 _ _ (kp2 c u e n)
    generalize upd G2 sh (.tup [.ref a, .ref nr]) = G3 at hp3 kp3 esh ⊢
    refine ⟨_, rfl, p, CT, dx, _, rfl, hp3, TT.cl, TT.n3, (by show 2 < 1000; decide), ?_⟩
    try dsimp only [tNext]
    refine ⟨_, rfl, _, rfl, p, CT, dx, _, rfl, upd_same, TT.cl, TT.n4, (by show 3 < 1000; decide), ?_⟩
    have fin : ∀ c u, G c = some u → c ≠ p → (upd (upd G3 p (.ins CT dx (putF "_shape" (.ref sh) (putF "_edges" (.ref b) (putF "_places" (.ref a) []))))) p (.ins CT dx (putF "plan" (.ref o) (putF "_shape" (.ref sh) (putF "_edges" (.ref b) (putF "_places" (.ref a) [])))))) c = some u := fun c u e n => by
      rw [upd_ne n, upd_ne n]
      exact kp3 c u e n
    have lnrG := lnr5.same sG
    have kok := kok (dueJ.trans hj) a b nr o us A Dp par ns
    rw [← ews, ← ees] at kok
    refine kok _ rfl rfl wk uw cl ⟨⟨dx, sh, upd_same, by rw [upd_ne shp, upd_ne shp]; exact esh⟩, ⟨fin _ _ lnrG.top (ne_of lnrG.top hpG (by intro z; cases z)), fun i hi => fin _ _ (lnrG.row i hi) (ne_of (lnrG.row i hi) hpG (by intro z; cases z)), lnrG.inj⟩, ⟨dx5, p3, p4, p5, pn, fin _ _ (sG _ _ po1) op, ?_, ?_, ?_, ?_⟩⟩ fun c u e n => fin _ _ (sG _ _ (sH5 _ _ e)) n
    · exact fin _ _ (sG _ _ po2) (ne_of (sG _ _ po2) hpG (by intro z; cases z))
    · exact fin _ _ (sG _ _ po3) (ne_of (sG _ _ po3) hpG (by intro z; cases z))
    · exact fin _ _ (sG _ _ po4) (ne_of (sG _ _ po4) hpG (by intro z; cases z))
    · exact fin _ _ (sG _ _ po5) (ne_of (sG _ _ po5) hpG (by intro z; cases z))
end
end Tg

namespace Tg
open PySem L2 Ow
abbrev lChanged : Stmt := top 30
theorem kp_tkept {b L : Addr} {H H' : Hp} (k : Kp b L H H') (B : Box b L H) : TupKept H H' := fun a xs e => by
  obtain ⟨gs, now, seed, turn, B⟩ := B
  exact k a _ (ne_of e B.dc (by intro z; cases z)) (ne_of e B.ls (by intro z; cases z)) e
theorem same_kp {b L : Addr} {H H' : Hp} (s : Same H H') : Kp b L H H' := fun a o _ _ e => s a o e
theorem VdA.set {H : Hp} : ∀ {ds : List PyData} {xs : List V} {i : Nat} {d : PyData} {x : V}, VdA H ds xs → Vd H d x → VdA H (ds.set i d) (xs.set i x)
  | [], xs, i, d, x, h, _ => by
    unfold VdA at h
    subst h
    simpa using VdA.nil
  | e :: es, xs, 0, d, x, h, hd => by
    obtain ⟨y, r, ey, h1, h2⟩ := h.uncons
    subst ey
    exact VdA.cons hd h2
  | e :: es, xs, i + 1, d, x, h, hd => by
    obtain ⟨y, r, ey, h1, h2⟩ := h.uncons
    subst ey
    exact VdA.cons h1 (VdA.set h2 hd)
theorem wtA_set : ∀ (ds : List PyData) (i : Nat) (d : PyData), wtA (ds.set i d) ≤ wtA ds + wt d
  | [], i, d => by simp [wtA]
  | e :: es, 0, d => by
    simp [wtA]
    omega
  | e :: es, i + 1, d => by
    have := wtA_set es i d
    simp [wtA]
    omega
theorem set_mem {ds : List PyData} {i : Nat} {d e : PyData} (h : e ∈ ds.set i d) : e ∈ ds ∨ e = d := List.mem_or_eq_of_mem_set h
theorem ixN_at {n j : Nat} (h : j < n) : ixN n (j : Int) = some j := by
  unfold ixN
  rw [if_pos (by omega), if_pos (by omega)]
  rfl
def spChanged (m : Nat) : Sp := fun vs H Q _ => ∃ (b L o : Addr) (d : PyData) (v : V) (ods : List PyData) (ovs : List V) (n S k So : Nat), vs = [.ref b, v, .int (m : Nat), .ref o] ∧ Box b L H ∧ Vd H d v ∧ Good d n S ∧ H o = some (.lst ovs) ∧ o ≠ b ∧ o ≠ L ∧ VdA H ods ovs ∧
  1 ≤ ods.length ∧ ods.length ≤ 100 ∧ (∀ e ∈ ods, Good e k So) ∧ S ≤ 1000000 ∧ ∀ u e H', Vd H' e u → Good e (n + k + m) (3 * S + So + 20) → Box b L H' → Kp b L H H' → Q u H'
abbrev chN : List Str := ["_law_box_here", "_law_thing", "_law_deep", "_law_odd", "_law_form", "_law_at", "_law_other", "_law_some"]
theorem scChanged : FnScope chN ["_law_box_here", "_law_thing", "_law_deep", "_law_odd"] (defScope lChanged) := ⟨rfl, rfl, rfl, by decide +kernel, rfl, by decide +kernel, by decide +kernel⟩
abbrev chP : List Str := ["_law_box_here", "_law_thing", "_law_deep", "_law_odd"]
section
variable {P : Program} {w : World} {K : PySem.W.Frag} {mg : Str → Option Value} {base : Heap}
theorem ok_changed_step {f : Addr} {fd : FuncData} {m : Nat} {sp : Sp} (F : Fun K "_law_changed" "_law_changed" lChanged f fd) (T : TxtP mg) (cTake : Cal P w K mg base 1 "_law_take" ["_law_box_here", "_law_many"] spTake)
    (cChanged : Cal P w K mg base (m + 1) "_law_changed" chP sp) (hsp : ∀ k, m = k + 1 → sp = spChanged k) : FnOk P w K mg base CX0 (m + 2) f fd chP (spChanged m) := by
  refine F.ok scChanged (fun vs H Q E h => ?_) (fun cdv A outer s H vs Q E hr h => ?_)
  · obtain ⟨b, L, o, d, v, ods, ovs, n, S, k, So, rfl, _⟩ := h
    rfl
  · obtain ⟨b, L, o, d, v, ods, ovs, n, S, k, So, rfl, B, hv, gd, eo, ob, oL, ho, o1, o100, og, hS, kk⟩ := h
    have nd := scChanged.nd
    have hol := ho.len
    refine ⟨_, (pss_cons (ps_set (i := 4) nd rfl (.inl rfl) (pe_cal cTake (hr.mono (by omega)) (by rfl) (pa_cons (pv 0) (pa_cons pe_int pa_nil))))
      (pss_cons (ps_if (PW.pt (pw_or (pt_not (pt_val (pe_callB call_isi (by rfl) T.b_isinstance (by decide +kernel) (pa_cons (pv 1) (pa_cons (pe_bltn (v := .ty "tuple") (by rfl) T.b_tuple (by decide +kernel) rfl) pa_nil))))) (pw_or (pt_cmpR op_eq (pe_callB call_len_seq (by rfl) T.b_len PySem.boot_len (pa_cons (pv 1) pa_nil)) pe_int (nomark _)) (pw_or (pt_cmpR op_eq (pv 2) pe_int (nomark _)) (pw_or1 (pt_cmpR op_eq (pv 4) pe_int (nomark _)))))))
        (pss_one (ps_ret (pe_ix ix_list (pv 3) (pe_cal cTake (hr.mono (by omega)) (by rfl) (pa_cons (pv 0) (pa_cons (pe_callB call_len_seq (by rfl) T.b_len PySem.boot_len (pa_cons (pv 3) pa_nil)) pa_nil))) (fun _ _ => rfl))))
        pss_nil)
      (pss_cons (ps_par (i := 5) (j := 6) (by rfl) nd rfl rfl (by decide) rfl rfl (pa_cons (pe_cal cTake (hr.mono (by omega)) (by rfl) (pa_cons (pv 0) (pa_cons (pe_callB call_len_seq (by rfl) T.b_len PySem.boot_len (pa_cons (pv 1) pa_nil)) pa_nil))) (pa_cons (pe_cal cTake (hr.mono (by omega)) (by rfl) (pa_cons (pv 0) (pa_cons (pe_callB call_len_seq (by rfl) T.b_len PySem.boot_len (pa_cons (pv 1) pa_nil)) pa_nil))) pa_nil)) (by rfl))
      (pss_cons (ps_if (pt_cmpR op_eq (pv 4) pe_int (nomark _))
        (pss_one (ps_ret (pe_op op_catA (pe_slice sl_tupA (pv 1) po_none (po_some (pv 5))) (pe_slice sl_tupA (pv 1) (po_some (pe_op op_add (pv 5) pe_int)) po_none))))
        pss_nil)
      (pss_cons (ps_if (pt_cmpR op_eq (pv 4) pe_int (nomark _))
        (pss_one (ps_ret (pe_op op_catA (pe_op op_catA (pe_slice sl_tupA (pv 1) po_none (po_some (pv 5))) (pe_tup (pa_cons (pe_ix ix_tup (pv 1) (pv 6) (fun _ _ => rfl)) pa_nil))) (pe_slice sl_tupA (pv 1) (po_some (pv 5)) po_none))))
        pss_nil)
      (pss_cons (ps_if (pt_cmpR op_eq (pv 4) pe_int (nomark _))
        (pss_cons (ps_set (i := 7) nd rfl (.inl rfl) (pe_callTy call_list_of (by rfl) T.b_list (by decide +kernel) (pa_cons (pv 1) pa_nil)))
          (pss_cons (ps_asg (pe_tup (pa_cons (pe_ix ix_list (pv 7) (pv 6) (fun _ _ => rfl)) (pa_cons (pe_ix ix_list (pv 7) (pv 5) (fun _ _ => rfl)) pa_nil))) (pg_tup (by rfl) (pgs_cons (pg_sub (pv 7) (pv 5) set_list) (pgs_cons (pg_sub (pv 7) (pv 6) set_list) pgs_nil))))
          (pss_one (ps_ret (pe_callTy call_tuple_of (by rfl) T.b_tuple (by decide +kernel) (pa_cons (pv 7) pa_nil))))))
        pss_nil)
      (pss_one (ps_ret (pe_op op_catA (pe_op op_catA (pe_slice sl_tupA (pv 1) po_none (po_some (pv 5))) (pe_tup (pa_cons (pe_cal cChanged (hr.mono (by omega)) (by rfl) (pa_cons (pv 0) (pa_cons (pe_ix ix_tup (pv 1) (pv 5) (fun _ _ => rfl)) (pa_cons (pe_op op_sub (pv 2) pe_int) (pa_cons (pv 3) pa_nil))))) pa_nil))) (pe_slice sl_tupA (pv 1) (po_some (pe_op op_add (pv 5) pe_int)) po_none)))))))))), ?_⟩
    refine ⟨_, rfl, b, L, 8, rfl, by decide, by decide +kernel, B, fun d1 H1 a1 c1 B1 k1 => ?_⟩
    have eo1 := k1 _ _ ob oL eo
    have t1 := kp_tkept k1 B
    have ho1 := ho.keep t1
    have hv1 := hv.keep t1
    try dsimp only [tNext]
    -- an odd one
    have odd : ∀ (d2 : Int) (H2 : Hp), 0 ≤ d2 → d2 < (ovs.length : Int) → Box b L H2 → Kp b L H1 H2 → ∃ x, atI ovs d2 = some x ∧ H2 o = some (.lst ovs) ∧ Q x H2 := by
      intro d2 H2 a2 c2 B2 k2
      obtain ⟨dn, rfl⟩ : ∃ n : Nat, d2 = n := ⟨d2.toNat, by omega⟩
      have hdn : dn < ods.length := by omega
      obtain ⟨e, x, e1, e2, vx⟩ := (ho1.keep (kp_tkept k2 B1)).at_ hdn
      exact ⟨x, atI_nat e2, k2 _ _ ob oL eo1, kk x e H2 vx ((og e (List.mem_of_getElem? e1)).mono (by omega) (by omega)) B2 (k1.trans k2)⟩
    have ol : (1 : Int) ≤ (ovs.length : Int) := by omega
    have ol2 : (ovs.length : Int) ≤ 100 := by omega
    refine seq_rest (fun σ1 G => σ1 = [some (.ref b), some v, some (.int (m : Nat)), some (.ref o), some (.int d1), none, none, none] ∧ G = H1 ∧ isTupD d = true ∧ itemsD d ≠ [] ∧ m ≠ 0) ?_ (fun rest => ?_)
    rotate_left
    · refine ⟨_, rfl, _, .ty "tuple", _, _, _, rfl, .ty _, Vd.ty hv1, k_tup K _, _, rfl, ?_⟩
      cases c2 : isTupD d
      · refine iteT (iteT ?_)
        refine ⟨_, rfl, _, rfl, _, rfl, o, _, rfl, .inl (SqL.of eo1), b, L, _, rfl, by omega, log_small (by omega) (by omega), B1, fun d2 H2 a2 c2 B2 k2 => ?_⟩
        obtain ⟨x, e1, e2, q⟩ := odd d2 H2 a2 c2 B2 k2
        exact ⟨o, _, _, _, rfl, rfl, SqL.of e2, e1, q⟩
      refine iteF ?_
      cases d <;> simp [isTupD] at c2
      rename_i ds
      obtain ⟨a, xs, rfl, ea, hs⟩ := hv1.tup
      refine ⟨_, rfl, a, _, rfl, .inr (SqT.of ea), rfl, _, rfl, ?_⟩
      refine ite2 (fun c3 => ?_) (fun c3 => ?_)
      · refine iteT ?_
        refine ⟨_, rfl, _, rfl, _, rfl, o, _, rfl, .inl (SqL.of eo1), b, L, _, rfl, by omega, log_small (by omega) (by omega), B1, fun d2 H2 a2 c2 B2 k2 => ?_⟩
        obtain ⟨x, e1, e2, q⟩ := odd d2 H2 a2 c2 B2 k2
        exact ⟨o, _, _, _, rfl, rfl, SqL.of e2, e1, q⟩
      have nz : xs.length ≠ 0 := fun z => by
        rw [z] at c3
        simp at c3
      refine ⟨_, rfl, rfl, _, rfl, ?_⟩
      refine ite2 (fun c4 => ?_) (fun c4 => ?_)
      · refine iteT ?_
        refine ⟨_, rfl, _, rfl, _, rfl, o, _, rfl, .inl (SqL.of eo1), b, L, _, rfl, by omega, log_small (by omega) (by omega), B1, fun d2 H2 a2 c2 B2 k2 => ?_⟩
        obtain ⟨x, e1, e2, q⟩ := odd d2 H2 a2 c2 B2 k2
        exact ⟨o, _, _, _, rfl, rfl, SqL.of e2, e1, q⟩
      have mz : m ≠ 0 := fun z => by
        rw [z] at c4
        simp at c4
      refine ⟨_, rfl, rfl, _, rfl, ?_⟩
      refine ite2 (fun c5 => ?_) (fun c5 => ?_)
      · refine ⟨_, rfl, _, rfl, _, rfl, o, _, rfl, .inl (SqL.of eo1), b, L, _, rfl, by omega, log_small (by omega) (by omega), B1, fun d2 H2 a2 c2 B2 k2 => ?_⟩
        obtain ⟨x, e1, e2, q⟩ := odd d2 H2 a2 c2 B2 k2
        exact ⟨o, _, _, _, rfl, rfl, SqL.of e2, e1, q⟩
      refine rest _ _ ⟨rfl, rfl, rfl, fun z => nz ?_, mz⟩
      have z2 : ds = [] := z
      rw [hs.len, z2]
      rfl
    rintro σ1 G ⟨rfl, rfl, c2, cn, cm⟩
    cases d <;> simp [isTupD] at c2
    rename_i ds
    have cn : ds ≠ [] := cn
    obtain ⟨m, rfl⟩ : ∃ j, m = j + 1 := ⟨m - 1, by omega⟩
    have hsp := hsp m rfl
    subst hsp
    have lpos : 0 < ds.length := List.length_pos_iff.mpr cn
    have lbig : ds.length ≤ 500000 := by
      have := gd.lenS
      omega
    obtain ⟨n, rfl⟩ := gd.dpos
    have gi : ∀ e ∈ ds, Good e n S := fun e he => gd.item he
    have gw := gd.wtT
    obtain ⟨a, xs, rfl, ea, hs⟩ := hv1.tup
    have hxl := hs.len
    refine ⟨_, rfl, _, rfl, a, _, rfl, .inr (SqT.of ea), b, L, _, rfl, by omega, ?_, B1, fun d2 H2 a2 c2 B2 k2 => ?_⟩
    · have : (xs.length : Int).natAbs < 2 ^ 20 := by
        have e : (2 : Nat) ^ 20 = 1048576 := by decide
        omega
      exact Nat.lt_of_lt_of_le (PySem.Flt.log2_lt_of (by decide) this) (by decide)
    have t2 := kp_tkept k2 B1
    refine ⟨_, rfl, _, rfl, a, _, rfl, .inr (SqT.of (t2 _ _ ea)), b, L, _, rfl, by omega, ?_, B2, fun d3 H3 a3 c3 B3 k3 => ?_⟩
    · have : (xs.length : Int).natAbs < 2 ^ 20 := by
        have e : (2 : Nat) ^ 20 = 1048576 := by decide
        omega
      exact Nat.lt_of_lt_of_le (PySem.Flt.log2_lt_of (by decide) this) (by decide)
    have t3 := t2.trans (kp_tkept k3 B2)
    have ea3 := t3 _ _ ea
    have hs3 := hs.keep t3
    have hv3 : Vd H3 (.tuple ds) (.ref a) := Vd.ofTup ea3 hs3
    have K3 : Kp b L H H3 := k1.trans (k2.trans k3)
    have eo3 := k3 _ _ ob oL (k2 _ _ ob oL eo1)
    have ho3 := ho1.keep t3
    obtain ⟨i, rfl⟩ : ∃ i : Nat, d2 = i := ⟨d2.toNat, by omega⟩
    obtain ⟨j, rfl⟩ : ∃ i : Nat, d3 = i := ⟨d3.toNat, by omega⟩
    have hi : i < ds.length := by omega
    have hj : j < ds.length := by omega
    obtain ⟨di, xi, edi, exi, vi⟩ := hs3.at_ hi
    obtain ⟨dj, xj, edj, exj, vj⟩ := hs3.at_ hj
    have mi := List.mem_of_getElem? edi
    have mj := List.mem_of_getElem? edj
    have wi := wtA_at edi
    have wj := wtA_mem mj
    have wd := wtA_take_drop ds i
    have pi : ((i : Int) + 1) = ((i + 1 : Nat) : Int) := by omega
    have szl : ∀ z : Nat, z ≤ 2000000 → z ≤ sizeLine := fun z hz => by
      rw [sizeLine_eq]
      omega
    refine ⟨_, _, rfl, ?_⟩
    clear k1 k2 k3 t1 t2 t3 eo eo1 ho ho1 hv hv1 odd B B1 B2 ea hs
    try dsimp only [tNext]
    -- form == 1
    refine ⟨_, rfl, rfl, _, rfl, ?_⟩
    refine ite2 (fun f1 => ?_) (fun f1 => ?_)
    · refine ⟨_, rfl, _, rfl, _, rfl, slA_take (K := K) hv3 (Nat.le_of_lt hi) fun u1 G1 s1 vu1 => ?_⟩
      refine ⟨_, rfl, _, rfl, _, _, rfl, rfl, _, rfl, ?_⟩
      dsimp only [tNoPart]
      refine slA_dropE (K := K) (k := i + 1) (by omega) (hv3.keep s1.tkept) hi fun u2 G2 s2 vu2 => ?_
      refine catA (K := K) (vu1.keep s2.tkept) vu2 (szl _ (by rw [List.length_take, List.length_drop]; omega)) fun u3 G3 s3 vu3 => ?_
      have sx := s1.trans (s2.trans s3)
      refine kk u3 _ G3 vu3 (Good.mono (Good.made (n := n) (S := S) (fun e he => ?_) ?_) (by omega) (by omega)) (B3.same sx) (K3.trans (same_kp sx))
      · rcases List.mem_append.mp he with h | h
        · exact gi e (take_mem h)
        · exact gi e (drop_mem h)
      · rw [wtA_app]
        omega
    try dsimp only [tNext]
    -- form == 2
    refine ⟨_, rfl, rfl, _, rfl, ?_⟩
    refine ite2 (fun f2 => ?_) (fun f2 => ?_)
    · refine ⟨_, rfl, _, rfl, _, rfl, slA_take (K := K) hv3 (Nat.le_of_lt hi) fun u1 G1 s1 vu1 => ?_⟩
      refine ⟨_, rfl, _, rfl, a, _, _, _, rfl, rfl, SqT.of (s1 _ _ ea3), atI_nat exj, (by show 1 ≤ sizeLine; decide), fun t nt => ?_⟩
      have s2 : Same G1 (upd G1 t (.tup [xj])) := same_upd (Same.refl _) nt
      have vt : Vd (upd G1 t (.tup [xj])) (.tuple [dj]) (.ref t) := Vd.ofTup upd_same (VdA.one (vj.keep (s1.trans s2).tkept))
      generalize upd G1 t (.tup [xj]) = G2 at s2 vt ⊢
      refine catA (K := K) (vu1.keep s2.tkept) vt (szl _ (by rw [List.length_take]; show _ + 1 ≤ _; omega)) fun u3 G3 s3 vu3 => ?_
      refine ⟨_, rfl, _, rfl, _, rfl, ?_⟩
      dsimp only [tNoPart]
      refine slA_drop (K := K) (hv3.keep (s1.trans (s2.trans s3)).tkept) (Nat.le_of_lt hi) fun u4 G4 s4 vu4 => ?_
      refine catA (K := K) (vu3.keep s4.tkept) vu4 (szl _ (by rw [List.length_append, List.length_take, List.length_drop]; show _ + 1 + _ ≤ _; omega)) fun u5 G5 s5 vu5 => ?_
      have sx := s1.trans (s2.trans (s3.trans (s4.trans s5)))
      refine kk u5 _ G5 vu5 (Good.mono (Good.made (n := n) (S := 2 * S + 2) (fun e he => Good.mono (?_ : Good e n S) (Nat.le_refl _) (by omega)) ?_) (by omega) (by omega)) (B3.same sx) (K3.trans (same_kp sx))
      · rcases List.mem_append.mp he with h | h
        · rcases List.mem_append.mp h with h | h
          · exact gi e (take_mem h)
          · simp at h
            subst h
            exact gi _ mj
        · exact gi e (drop_mem h)
      · rw [wtA_app, wtA_app, wtA_cons]
        show _ + (wt dj + 2 + 0) + _ + 10 ≤ _
        omega
    try dsimp only [tNext]
    -- form == 3
    refine ⟨_, rfl, rfl, _, rfl, ?_⟩
    refine ite2 (fun f3 => ?_) (fun f3 => ?_)
    · refine ⟨_, rfl, a, _, rfl, .inr (SqT.of ea3), fun p np => ?_⟩
      have s1 : Same H3 (upd H3 p (.lst xs)) := same_upd (Same.refl _) np
      have lp : (upd H3 p (.lst xs)) p = some (.lst xs) := upd_same
      have hs1 := hs3.keep s1.tkept
      obtain ⟨pb, pL⟩ := B3.apart np
      generalize upd H3 p (.lst xs) = G1 at s1 lp hs1 ⊢
      try dsimp only [tNext]
      refine ⟨_, rfl, _, rfl, p, _, _, _, rfl, rfl, SqL.of lp, atI_nat exj, _, rfl, _, rfl, p, _, _, _, rfl, rfl, SqL.of lp, atI_nat exi, (by show 2 ≤ sizeLine; decide), fun t nt => ?_⟩
      have s2 : Same G1 (upd G1 t (.tup [xj, xi])) := same_upd (Same.refl _) nt
      have lt : (upd G1 t (.tup [xj, xi])) t = some (.tup [xj, xi]) := upd_same
      have lp2 := s2 _ _ lp
      have hs2 := hs1.keep s2.tkept
      have vi2 := vi.keep (s1.trans s2).tkept
      have vj2 := vj.keep (s1.trans s2).tkept
      generalize upd G1 t (.tup [xj, xi]) = G2 at s2 lt lp2 hs2 vi2 vj2 ⊢
      have si : ixN xs.length (i : Int) = some i := ixN_at (by omega)
      have sj : ixN (xs.set i xj).length (j : Int) = some j := ixN_at (by rw [List.length_set]; omega)
      refine ⟨t, _, rfl, SqT.of lt, rfl, _, _, rfl, _, rfl, _, rfl, p, xs, _, i, rfl, rfl, lp2, si, _, _, rfl, _, rfl, _, rfl, p, _, _, j, rfl, rfl, upd_same, sj, rfl, ?_⟩
      have npH : H3 p = none := np
      have dpt : ∀ {G : Hp} {ys zs : List V}, G p = some (.lst ys) → TupKept G (upd G p (.lst zs)) := fun e => tkept_lst e
      have tk2 : TupKept G2 (upd (upd G2 p (.lst (xs.set i xj))) p (.lst ((xs.set i xj).set j xi))) := (dpt lp2).trans (dpt upd_same)
      have sz : Same H3 (upd (upd G2 p (.lst (xs.set i xj))) p (.lst ((xs.set i xj).set j xi))) := fun c u e => by
        rw [upd_ne (ne_of_none e npH), upd_ne (ne_of_none e npH)]
        exact s2 _ _ (s1 _ _ e)
      have lpz : (upd (upd G2 p (.lst (xs.set i xj))) p (.lst ((xs.set i xj).set j xi))) p = some (.lst ((xs.set i xj).set j xi)) := upd_same
      have hsz := (VdA.set (i := j) (VdA.set (i := i) hs2 vj2) vi2).keep tk2
      generalize upd (upd G2 p (.lst (xs.set i xj))) p (.lst ((xs.set i xj).set j xi)) = G3 at sz lpz hsz ⊢
      try dsimp only [tNext]
      refine ⟨_, rfl, p, _, rfl, .inl ⟨SqL.of lpz, fun q nq => ?_⟩⟩
      have s4 : Same G3 (upd G3 q (.tup ((xs.set i xj).set j xi))) := same_upd (Same.refl _) nq
      have sx := sz.trans s4
      refine kk (.ref q) (.tuple ((ds.set i dj).set j di)) _ (Vd.ofTup upd_same (hsz.keep s4.tkept)) (Good.mono (Good.made (n := n) (S := 3 * S) (fun e he => Good.mono (?_ : Good e n S) (Nat.le_refl _) (by omega)) ?_) (by omega) (by omega)) (B3.same sx) (K3.trans (same_kp sx))
      · rcases set_mem he with h | rfl
        · rcases set_mem h with h | rfl
          · exact gi e h
          · exact gi _ mj
        · exact gi _ mi
      · have w1 := wtA_set (ds.set i dj) j di
        have w2 := wtA_set ds i dj
        have w3 := wtA_mem mi
        omega
    try dsimp only [tNext]
    -- the item changed
    refine ⟨_, rfl, _, rfl, _, rfl, slA_take (K := K) hv3 (Nat.le_of_lt hi) fun u1 G1 s1 vu1 => ?_⟩
    refine ⟨_, rfl, _, rfl, _, rfl, a, _, _, _, rfl, rfl, SqT.of (s1 _ _ ea3), atI_nat exi, _, rfl, _, _, rfl, rfl, _, rfl, ?_⟩
    refine ⟨b, L, o, di, xi, ods, ovs, n, wt di, k, So, ?_, B3.same s1, vi.keep s1.tkept, ⟨(gi _ mi).gd, (gi _ mi).dp, Nat.le_refl _⟩, s1 _ _ eo3, ob, oL, ho3.keep s1.tkept, o1, o100, og, by omega, fun u e G2 vu gu B5 k5 => ?_⟩
    · show [V.ref b, xi, V.int (((m + 1 : Nat) : Int) - 1), V.ref o] = _
      rw [show ((m + 1 : Nat) : Int) - 1 = (m : Int) from by omega]
    have t5 := kp_tkept k5 (B3.same s1)
    refine ⟨(by show 1 ≤ sizeLine; decide), fun t nt => ?_⟩
    have s2 : Same G2 (upd G2 t (.tup [u])) := same_upd (Same.refl _) nt
    have vt : Vd (upd G2 t (.tup [u])) (.tuple [e]) (.ref t) := Vd.ofTup upd_same (VdA.one (vu.keep s2.tkept))
    have tk := t5.trans s2.tkept
    have B6 := B5.same s2
    have k6 : Kp b L H (upd G2 t (.tup [u])) := (K3.trans (same_kp s1)).trans (k5.trans (same_kp s2))
    generalize upd G2 t (.tup [u]) = G3 at s2 vt tk B6 k6 ⊢
    refine catA (K := K) (vu1.keep tk) vt (szl _ (by rw [List.length_take]; show _ + 1 ≤ _; omega)) fun u3 G4 s4 vu3 => ?_
    refine ⟨_, rfl, _, rfl, _, _, rfl, rfl, _, rfl, ?_⟩
    dsimp only [tNoPart]
    refine slA_dropE (K := K) (k := i + 1) (by omega) (hv3.keep (s1.tkept.trans (tk.trans s4.tkept))) hi fun u4 G5 s5 vu4 => ?_
    refine catA (K := K) (vu3.keep s5.tkept) vu4 (szl _ (by rw [List.length_append, List.length_take, List.length_drop]; show _ + 1 + _ ≤ _; omega)) fun u5 G6 s6 vu5 => ?_
    have sx := s4.trans (s5.trans s6)
    have gw2 := gu.wt
    refine kk u5 _ G6 vu5 (Good.mono (Good.made (n := n + k + m) (S := 3 * S + So + 20) (fun y hy => ?_) ?_) (by omega) (Nat.le_refl _)) (B6.same sx) (k6.trans (same_kp sx))
    · rcases List.mem_append.mp hy with h | h
      · rcases List.mem_append.mp h with h | h
        · exact (gi y (take_mem h)).mono (by omega) (by omega)
        · simp at h
          subst h
          exact gu.mono (Nat.le_refl _) (by omega)
      · exact (gi y (drop_mem h)).mono (by omega) (by omega)
    · rw [wtA_app, wtA_app, wtA_cons]
      show _ + (wt e + 2 + 0) + _ + 10 ≤ _
      omega
end
end Tg

namespace Tg
open PySem L2 Ow
abbrev lSpaced : Stmt := top 37
section
variable {P : Program} {w : World} {K : PySem.W.Frag} {mg : Str → Option Value} {base : Heap}
def spNo : Sp := fun _ _ _ _ => False
theorem ok_no {f : Addr} {fd : FuncData} (F : Fun K "_law_changed" "_law_changed" lChanged f fd) (k : Nat) : FnOk P w K mg base CX0 (k + 1) f fd chP spNo := by
  refine F.ok scChanged (fun vs H Q E h => ?_) (fun cdv A outer s H vs Q E hr h => ?_)
  · exact h.elim
  · exact h.elim
theorem ok_changed {f : Addr} {fd : FuncData} (F : Fun K "_law_changed" "_law_changed" lChanged f fd) (T : TxtP mg) (cTake : Cal P w K mg base 1 "_law_take" ["_law_box_here", "_law_many"] spTake)
    (hm : mg "_law_changed" = some (.ref f)) (hk : PySem.W.keepIn K (.ref f) = true) (hb : Binds K fd chP []) : ∀ n, FnOk P w K mg base CX0 (n + 2) f fd chP (spChanged n)
  | 0 => ok_changed_step F T cTake ⟨f, fd, ok_no F 0, hm, hk, hb⟩ fun _ h => by cases h
  | n + 1 => ok_changed_step F T cTake ⟨f, fd, ok_changed F T cTake hm hk hb n, hm, hk, hb⟩ fun m h => by cases h; rfl
def spSpaced : Sp := fun vs H Q _ => ∃ x : Str, vs = [.str x] ∧ x.length ≤ 1000000 ∧ PyData.strOk x = true ∧ ∀ l ds xs H', H l = none → H' l = some (.lst xs) → Same H H' → VdA H' ds xs → ds.length = 4 → (∀ d ∈ ds, Good d 0 (10 * x.length + 30)) → Q (.ref l) H'
theorem scSpaced : FnScope ["_law_text"] ["_law_text"] (defScope lSpaced) := ⟨rfl, rfl, rfl, by decide +kernel, rfl, by decide +kernel, by decide +kernel⟩
theorem strOk_app {x y : Str} (h1 : PyData.strOk x = true) (h2 : PyData.strOk y = true) : PyData.strOk (x ++ y) = true := by
  have a1 := Array.all_eq_true'.mp (show x.cps.all (· < 0x110000) = true from h1)
  have a2 := Array.all_eq_true'.mp (show y.cps.all (· < 0x110000) = true from h2)
  show (x.cps ++ y.cps).all (· < 0x110000) = true
  rw [Array.all_eq_true']
  intro c hc
  rcases Array.mem_append.mp hc with h | h
  · exact a1 c h
  · exact a2 c h
theorem Good.ofStr {x : Str} (h : PyData.strOk x = true) : Good (.str x) 0 (10 * x.length + 10) := ⟨h, Nat.le_refl _, Nat.le_refl _⟩
theorem ok_Spaced {f : Addr} {fd : FuncData} (F : Fun K "_law_spaced" "_law_spaced" lSpaced f fd) : FnOk P w K mg base CX0 1 f fd ["_law_text"] spSpaced := by
  refine F.ok scSpaced (fun vs H Q E h => ?_) (fun cdv A outer s H vs Q E hr h => ?_)
  · obtain ⟨x, rfl, _⟩ := h
    rfl
  · obtain ⟨x, rfl, hl, hx, k⟩ := h
    refine ⟨_, (pss_one (ps_ret (pe_lst (pa_cons (pe_op op_add_str pe_str (pv 0)) (pa_cons (pe_op op_add_str (pv 0) pe_str) (pa_cons (pe_op op_add_str pe_str (pv 0)) (pa_cons (pe_op op_add_str (pv 0) pe_str) pa_nil))))))), ?_⟩
    have z1 : ∀ y : Str, y.length = 1 → y.length + x.length ≤ sizeLine := fun y h => by
      rw [sizeLine_eq]
      omega
    have z2 : ∀ y : Str, y.length = 1 → x.length + y.length ≤ sizeLine := fun y h => by
      rw [sizeLine_eq]
      omega
    refine ⟨_, rfl, _, _, rfl, rfl, z1 _ (by decide +kernel), _, rfl, _, _, rfl, rfl, z2 _ (by decide +kernel), _, rfl, _, _, rfl, rfl, z1 _ (by decide +kernel), _, rfl, _, _, rfl, rfl, z2 _ (by decide +kernel), (by show 4 ≤ sizeLine; decide), fun l nl => ?_⟩
    refine k l [.str (" " ++ x), .str (x ++ " "), .str ("\n" ++ x), .str (x ++ "\n")] _ _ nl upd_same (same_upd (Same.refl _) nl) (VdA.cons (Vd.mkStr _) (VdA.cons (Vd.mkStr _) (VdA.cons (Vd.mkStr _) (VdA.cons (Vd.mkStr _) VdA.nil)))) rfl ?_
    have g1 : ∀ y : Str, y.length = 1 → PyData.strOk y = true → Good (.str (y ++ x)) 0 (10 * x.length + 30) := fun y h1 h2 => (Good.ofStr (strOk_app h2 hx)).mono (Nat.le_refl _) (by rw [Str.length_append]; omega)
    have g2 : ∀ y : Str, y.length = 1 → PyData.strOk y = true → Good (.str (x ++ y)) 0 (10 * x.length + 30) := fun y h1 h2 => (Good.ofStr (strOk_app hx h2)).mono (Nat.le_refl _) (by rw [Str.length_append]; omega)
    intro d hd
    rcases List.mem_cons.mp hd with rfl | hd
    · exact g1 _ (by decide +kernel) (by decide +kernel)
    rcases List.mem_cons.mp hd with rfl | hd
    · exact g2 _ (by decide +kernel) (by decide +kernel)
    rcases List.mem_cons.mp hd with rfl | hd
    · exact g1 _ (by decide +kernel) (by decide +kernel)
    rcases List.mem_cons.mp hd with rfl | hd
    · exact g2 _ (by decide +kernel) (by decide +kernel)
    cases hd
end
end Tg

namespace Tg
open PySem L2 Ow
abbrev pWW : Stmt := inClass (top 23) 4
abbrev pWR : Stmt := inClass (top 23) 5
abbrev pWL : Stmt := inClass (top 23) 17
abbrev lTold : Stmt := top 36
/-- a tree by its parts alone -/
def TrOf (CW : Addr) (H : Hp) (p : Addr) (wv rv : V) : Prop := ∃ dx s pl, H p = some (.ins CW dx (treeF wv rv s pl))
section
variable {P : Program} {w : World} {K : PySem.W.Frag} {mg : Str → Option Value} {base : Heap} {CW CP CN : Addr}
def spWW (CW : Addr) : Sp := fun vs H Q _ => ∃ p wv rv, vs = [.ref p] ∧ TrOf CW H p wv rv ∧ Q wv H
def spWR (CW : Addr) : Sp := fun vs H Q _ => ∃ p wv rv, vs = [.ref p] ∧ TrOf CW H p wv rv ∧ Q rv H
def spWL (CW : Addr) : Sp := fun vs H Q _ => ∃ p a xs rv, vs = [.ref p] ∧ TrOf CW H p (.ref a) rv ∧ H a = some (.tup xs) ∧ Q (.int (xs.length : Nat)) H
theorem scWW : FnScope ["self"] ["self"] (defScope pWW) := ⟨rfl, rfl, rfl, by decide +kernel, rfl, by decide +kernel, by decide +kernel⟩
theorem scWR : FnScope ["self"] ["self"] (defScope pWR) := ⟨rfl, rfl, rfl, by decide +kernel, rfl, by decide +kernel, by decide +kernel⟩
theorem scWL : FnScope ["self"] ["self"] (defScope pWL) := ⟨rfl, rfl, rfl, by decide +kernel, rfl, by decide +kernel, by decide +kernel⟩
theorem ok_WW {f : Addr} {fd : FuncData} (F : Fun K "places" "Tree.places" pWW f fd) (T : TreeTxt K mg CW) : FnOk P w K mg base CX0 1 f fd ["self"] (spWW CW) := by
  refine F.ok scWW (fun vs H Q E h => ?_) (fun cdv A outer s H vs Q E hr h => ?_)
  · obtain ⟨p, wv, rv, rfl, _⟩ := h
    rfl
  · obtain ⟨p, wv, rv, rfl, ⟨dx, t, r, hp⟩, k⟩ := h
    refine ⟨_, (pss_one (ps_ret (pe_fld (pv 0) rfl))), ?_⟩
    exact ⟨_, rfl, p, CW, dx, _, _, rfl, hp, T.cl, T.n1, rfl, k⟩
theorem ok_WR {f : Addr} {fd : FuncData} (F : Fun K "edges" "Tree.edges" pWR f fd) (T : TreeTxt K mg CW) : FnOk P w K mg base CX0 1 f fd ["self"] (spWR CW) := by
  refine F.ok scWR (fun vs H Q E h => ?_) (fun cdv A outer s H vs Q E hr h => ?_)
  · obtain ⟨p, wv, rv, rfl, _⟩ := h
    rfl
  · obtain ⟨p, wv, rv, rfl, ⟨dx, t, r, hp⟩, k⟩ := h
    refine ⟨_, (pss_one (ps_ret (pe_fld (pv 0) rfl))), ?_⟩
    exact ⟨_, rfl, p, CW, dx, _, _, rfl, hp, T.cl, T.n2, rfl, k⟩
theorem ok_WL {f : Addr} {fd : FuncData} (F : Fun K "__len__" "Tree.__len__" pWL f fd) (T : TreeTxt K mg CW) (TP : TxtP mg) : FnOk P w K mg base CX0 1 f fd ["self"] (spWL CW) := by
  refine F.ok scWL (fun vs H Q E h => ?_) (fun cdv A outer s H vs Q E hr h => ?_)
  · obtain ⟨p, a, xs, rv, rfl, _⟩ := h
    rfl
  · obtain ⟨p, a, xs, rv, rfl, ⟨dx, t, r, hp⟩, ea, k⟩ := h
    refine ⟨_, (pss_one (ps_ret (pe_callB call_len_seq (by rfl) TP.b_len PySem.boot_len (pa_cons (pe_fld (pv 0) rfl) pa_nil)))), ?_⟩
    exact ⟨_, rfl, p, CW, dx, _, _, rfl, hp, T.cl, T.n1, rfl, a, _, rfl, .inr (SqT.of ea), k⟩
/-- the class Web as the law uses it -/
structure TreeC (P : Program) (w : World) (K : PySem.W.Frag) (mg : Str → Option Value) (base : Heap) (CW CP CN : Addr) : Prop where
  T : TreeTxt K mg CW
  mki : ∃ f fd, Mk K CW f ∧ FnOk P w K mg base (L2.CX P w) 4 f fd ["self", "places", "edges"] (spTI CW CP CN) ∧ Binds K fd ["self", "places", "edges"] []
  gm : mg "Tree" = some (.ref CW)
  wp : ∃ p g fd, PropOf K CW "places" p g ∧ FnOk P w K mg base CX0 1 g fd ["self"] (spWW CW) ∧ Binds K fd ["self"] []
  rp : ∃ p g fd, PropOf K CW "edges" p g ∧ FnOk P w K mg base CX0 1 g fd ["self"] (spWR CW) ∧ Binds K fd ["self"] []
  ln : ∃ f fd, FnOk P w K mg base CX0 1 f fd ["self"] (spWL CW) ∧ Binds K fd ["self"] [] ∧ PySem.W.findIn K (.ref CW) "__len__" = some (some (.ref f)) ∧ PySem.W.isFn K (.ref f) = true
/-- NoWeb as it is caught -/
structure NoC (K : PySem.W.Frag) (mg : Str → Option Value) (CN c1 c2 c3 c4 : Addr) : Prop where
  gm : mg "NoTree" = some (.ref CN)
  eP : PySem.W.exmOne K (.ref CN) (.ref CN) = some true
  xf : XfC K CN
  ex : ExcC K CN
  nw : PySem.W.findIn K (.ref CN) "word" = some none
  na : PySem.W.findIn K (.ref CN) "at" = some none
  g1 : mg "NoGrove" = some (.ref c1)
  g2 : mg "NoMatch" = some (.ref c2)
  g3 : mg "NoText" = some (.ref c3)
  g4 : mg "NoWeb" = some (.ref c4)
  ka : PySem.W.kitAny K (.ref CN) [.ref c1, .ref c2, .ref c3, .ref c4] = some false
def spLTold : Sp := fun vs H Q _ => ∃ W R wv rv, vs = [wv, rv] ∧ Vd H W wv ∧ Vd H R rv ∧ Lim W ∧ Lim R ∧
  (dueT W R = none → ∀ p H', H p = none → Same H H' → H' p = some (.lst [wv, rv, .int ((itemsD W).length : Nat)]) → Q (.ref p) H') ∧
  (∀ wd i, dueT W R = some (wd, i) → ∀ p H', H p = none → Same H H' → H' p = some (.tup [.str wd, .int i]) → Q (.ref p) H')
abbrev ltN : List Str := ["_law_places", "_law_edges", "_law_found", "e"]
theorem scLTold : FnScope ltN ["_law_places", "_law_edges"] (defScope lTold) := ⟨rfl, rfl, rfl, by decide +kernel, rfl, by decide +kernel, by decide +kernel⟩
theorem due_form {W R : PyData} (h : dueT W R = none) : formT W R = true := by
  cases e : formT W R
  · unfold dueT at h
    rw [e] at h
    cases h
  · rfl
theorem ok_LTold {f c1 c2 c3 c4 : Addr} {fd : FuncData} (F : Fun K "_law_told" "_law_told" lTold f fd) (T : TxtP mg) (c : TreeC P w K mg base CW CP CN) (N : NoC K mg CN c1 c2 c3 c4) : FnOk P w K mg base CX0 6 f fd ["_law_places", "_law_edges"] spLTold := by
  refine F.ok scLTold (fun vs H Q E h => ?_) (fun cdv A outer s H vs Q E hr h => ?_)
  · obtain ⟨W, R, wv, rv, rfl, _⟩ := h
    rfl
  · obtain ⟨W, R, wv, rv, rfl, hw, hrv, lw, lr, kok, kno⟩ := h
    obtain ⟨TW, ⟨fI, fdI, M, FI, bI⟩, gm, ⟨p1, g1, fd1, P1, F1, b1⟩, ⟨p2, g2, fd2, P2, F2, b2⟩, ⟨f3, fd3, F3, b3, s3, i3⟩⟩ := c
    have nd := scLTold.nd
    refine ⟨_, (pss_cons (ps_try_as (i := 3) rfl rfl nd rfl rfl ⟨rfl, by decide, .inl N.gm⟩ takes0
        (fun W pn xe tk _ => pss_one (ps_set (i := 2) nd rfl (.inl rfl) (pe_makeS M FI (hr.mono (by decide)) (by rfl) gm bI (fun σ => passAt tk σ) (pa_cons (pv 0) (pa_cons (pv 1) pa_nil)))))
        (fun a oe cls d pn hz hf => pss_cons (ps_if (pt_val (pe_callB (call_isET N.ex hz hf) (by rfl) T.b_isinstance (by decide +kernel) (pa_cons (pv 3) (pa_cons (pe_tup (pa_cons (pe_glob (v := .ref c1) (by rfl) N.g1 rfl) (pa_cons (pe_glob (v := .ref c2) (by rfl) N.g2 rfl) (pa_cons (pe_glob (v := .ref c3) (by rfl) N.g3 rfl) (pa_cons (pe_glob (v := .ref c4) (by rfl) N.g4 rfl) pa_nil))))) pa_nil))))
            (pss_one (ps_ret (pe_tup (pa_cons pe_str pa_nil))))
            pss_nil)
          (pss_one (ps_ret (pe_tup (pa_cons (pe_xf N.xf N.nw hz hf (pv 3)) (pa_cons (pe_xf N.xf N.na hz hf (pv 3)) pa_nil)))))))
      (pss_one (ps_ret (pe_lst (pa_cons (pe_prop (pv 2) TW.cl P1 F1 (hr.mono (by decide)) b1 .nil pass0 rfl) (pa_cons (pe_prop (pv 2) TW.cl P2 F2 (hr.mono (by decide)) b2 .nil pass0 rfl) (pa_cons (pe_callB (call_lenOwn F3 (hr.mono (by decide)) b3 pass0 s3 i3) (by rfl) T.b_len PySem.boot_len (pa_cons (pv 2) pa_nil)) pa_nil))))))), ?_⟩
    refine ⟨_, rfl, _, rfl, fun o dx no ndx ne => ?_⟩
    have s1 : Same H (upd (upd H dx (.own o)) o (.ins CW dx [])) := fun b u e => by
      rw [upd_ne (ne_of_none e no), upd_ne (ne_of_none e ndx)]
      exact e
    refine ⟨W, R, wv, rv, o, dx, rfl, upd_same, hw.keep s1.tkept, hrv.keep s1.tkept, lw, lr, fun hd a0 b0 nr pl us A0 Dp par ns H2 ea0 eb0 _ _ _ to kp => ⟨rfl, ?_⟩, fun wd i hd d H2 nd2 s2 ed => ?_⟩
    · have s2 : Same H H2 := fun b u e => kp b u (s1 _ _ e) (ne_of_none e no)
      obtain ⟨dx2, u2, hp2, _⟩ := to.top
      rw [← ea0, ← eb0] at hp2
      have wo : TrOf CW H2 o wv rv := ⟨dx2, u2, pl, hp2⟩
      try dsimp only [tNext]
      refine ⟨_, rfl, o, dx2, _, rfl, hp2, o, wv, rv, rfl, wo, _, rfl, o, dx2, _, rfl, hp2, o, wv, rv, rfl, wo, ?_⟩
      have hf := due_form hd
      obtain ⟨f1, f2⟩ := Bool.and_eq_true_iff.mp hf
      have eW := strs_back f1
      rw [eW] at hw
      obtain ⟨a, xs, rfl, ea, hs⟩ := hw.tup
      have hlen : xs.length = (itemsD W).length := by
        have e2 : (itemsD W).length = ((strsOf W).map PyData.str).length := congrArg (fun d => (itemsD d).length) eW
        rw [hs.len, e2]
      have hsm : xs.length ≤ 4000000 := by
        rw [hs.len]
        rw [eW] at lw
        have := lw.len
        omega
      refine ⟨_, rfl, o, dx2, _, rfl, hp2, o, a, xs, rv, rfl, wo, s2 _ _ ea, xs.length, rfl, hsm, (by show 3 ≤ sizeLine; decide), fun l nl => ?_⟩
      refine kok hd l _ (s2.free nl) (same_upd s2 (s2.free nl)) ?_
      rw [upd_same, hlen]
    · have sH := s1.trans s2
      refine ⟨true, N.eP, fun _ a na => ?_, fun z => nomatch z⟩
      refine ⟨_, rfl, (by show 4 ≤ sizeLine; decide), fun tp ntp => ?_⟩
      have ed2 : (upd H2 tp (.tup [.ref c1, .ref c2, .ref c3, .ref c4])) d = some (.xd (fsW wd i)) := by rw [upd_ne (ne_of_none ed ntp)]; exact ed
      have sH2 : Same H (upd H2 tp (.tup [.ref c1, .ref c2, .ref c3, .ref c4])) := same_upd sH (sH.free ntp)
      refine ⟨rfl, ⟨d, _, rfl, ed2⟩, tp, _, [.ref c1, .ref c2, .ref c3, .ref c4], false, rfl, upd_same, .cons (.own _) (.cons (.own _) (.cons (.own _) (.cons (.own _) .nil))), N.ka, _, rfl, iteF ?_⟩
      try dsimp only [tNext]
      refine ⟨_, rfl, rfl, rfl, d, _, _, rfl, ed2, rfl, _, rfl, rfl, rfl, d, _, _, rfl, ed2, rfl, (by show 2 ≤ sizeLine; decide), fun t nt => ?_⟩
      exact kno wd i hd t _ (sH2.free nt) (same_upd sH2 (sH2.free nt)) upd_same
end
end Tg

namespace Tg
open PySem L2 Ow
abbrev lSize : Stmt := top 31
abbrev lIsName : Stmt := top 32
abbrev lForm : Stmt := top 33
abbrev alphaT : Str := "abcdefghijklmnopqrstuvwxyz"
theorem alpha_in (c : Nat) : decide (c ∈ alphaT.cps.toList) = okCp c := by
  have e : alphaT.cps.toList = (List.range 26).map (97 + ·) := by
    have := congrArg (fun s : Str => s.cps.toList) letters_eq
    simpa [sL] using this
  rw [e]
  unfold okCp
  by_cases h : 97 ≤ c ∧ c ≤ 122
  · rw [decide_eq_true (List.mem_map.mpr ⟨c - 97, List.mem_range.mpr (by omega), by omega⟩), decide_eq_true h.1, decide_eq_true h.2]
    rfl
  · have : ¬ c ∈ (List.range 26).map (97 + ·) := fun z => by
      obtain ⟨k, hk, rfl⟩ := List.mem_map.mp z
      have := List.mem_range.mp hk
      exact h ⟨by omega, by omega⟩
    rw [decide_eq_false this]
    by_cases h1 : 97 ≤ c
    · have h2 : ¬ c ≤ 122 := fun z => h ⟨h1, z⟩
      rw [decide_eq_false h2, Bool.and_false]
    · rw [decide_eq_false h1]
      rfl
section
variable {P : Program} {w : World} {K : PySem.W.Frag} {mg : Str → Option Value} {base : Heap}
def spSize : Sp := fun vs H Q _ => ∃ b L, vs = [.ref b] ∧ Box b L H ∧ ∀ (m : Nat) H', 1 ≤ m → m ≤ 40 → Box b L H' → Kp b L H H' → Q (.int (m : Nat)) H'
theorem scSize : FnScope ["_law_box_here"] ["_law_box_here"] (defScope lSize) := ⟨rfl, rfl, rfl, by decide +kernel, rfl, by decide +kernel, by decide +kernel⟩
theorem ok_Size {f : Addr} {fd : FuncData} (F : Fun K "_law_size" "_law_size" lSize f fd) (T : TxtP mg) (cTake : Cal P w K mg base 1 "_law_take" ["_law_box_here", "_law_many"] spTake) : FnOk P w K mg base CX0 2 f fd ["_law_box_here"] spSize := by
  refine F.ok scSize (fun vs H Q E h => ?_) (fun cdv A outer s H vs Q E hr h => ?_)
  · obtain ⟨b, L, rfl, _⟩ := h
    rfl
  · obtain ⟨b, L, rfl, B, k⟩ := h
    have nd := scSize.nd
    refine ⟨_, (pss_one (ps_ret (pe_ix ix_list (pe_lst (pa_cons pe_int (pa_cons pe_int pa_nil))) (pe_callTy call_int1 (by rfl) T.b_int (by decide +kernel) (pa_cons (pe_cmpR op_eq (pe_cal cTake (hr.mono (by decide)) (by rfl) (pa_cons (pv 0) (pa_cons pe_int pa_nil))) pe_int (nomark _)) pa_nil)) (fun _ _ => rfl)))), ?_⟩
    refine ⟨(by show 2 ≤ sizeLine; decide), fun l nl => ?_⟩
    have s1 := same_upd (o := .lst [.int 12, .int 40]) (Same.refl H) nl
    have el : (upd H l (.lst [.int 12, .int 40])) l = some (.lst [.int 12, .int 40]) := upd_same
    obtain ⟨lb, lL⟩ := B.apart nl
    refine ⟨_, rfl, b, L, 8, rfl, by decide, by decide +kernel, B.same s1, fun d G a1 c1 B1 k1 => ?_⟩
    have el1 := k1 _ _ lb lL el
    have kk := (same_kp s1 : Kp b L _ _).trans k1
    refine ⟨rfl, .inr ⟨_, rfl, ?_⟩⟩
    by_cases c : d = 0
    · rw [decide_eq_true (by rw [c])]
      exact ⟨l, _, _, _, rfl, rfl, SqL.of el1, (atI_nat (j := 1) rfl), k 40 G (by decide) (by decide) B1 kk⟩
    · rw [decide_eq_false fun z => c (V.int.inj z)]
      exact ⟨l, _, _, _, rfl, rfl, SqL.of el1, (atI_nat (j := 0) rfl), k 12 G (by decide) (by decide) B1 kk⟩
def spLName : Sp := fun vs H Q _ => ∃ x : Str, vs = [.str x] ∧ 10 * x.length + 10 ≤ 4000000 ∧ ∀ H', Same H H' → Q (.bl (isNmS x)) H'
theorem scLName : FnScope ["_law_value", "_law_letter"] ["_law_value"] (defScope lIsName) := ⟨rfl, rfl, rfl, by decide +kernel, rfl, by decide +kernel, by decide +kernel⟩
theorem ok_LName {f : Addr} {fd : FuncData} (F : Fun K "_law_is_name" "_law_is_name" lIsName f fd) (T : TxtP mg) : FnOk P w K mg base CX0 1 f fd ["_law_value"] spLName := by
  refine F.ok scLName (fun vs H Q E h => ?_) (fun cdv A outer s H vs Q E hr h => ?_)
  · obtain ⟨x, rfl, _⟩ := h
    rfl
  · obtain ⟨x, rfl, hx, k⟩ := h
    have nd := scLName.nd
    refine ⟨_, (pss_one (ps_ret (pe_and (pe_chain op_lt op_lt pe_int (pe_callB call_len_str (by rfl) T.b_len PySem.boot_len (pa_cons (pv 0) pa_nil)) pe_int) (pe_one (pe_callB (cr_all rfl) (by rfl) T.b_all (by decide +kernel) (pa_cons (pe_lc (own := [("_law_letter", 1)]) (g := gName 1) rfl nd (pi_str (pv 0)) (blkOk_by (own := [("_law_letter", 1)]) (N := ["_law_value", "_law_letter"]) (sc := defScope lIsName) (by decide +kernel)) (fun _ _ _ _ _ => (pg_name (i := 1) nd rfl (.inl rfl))) (fun _ _ _ _ _ => pts_nil) (fun _ _ _ _ _ => (pe_cmpR op_in_sign (pv 1) pe_str rfl))) pa_nil)))))), ?_⟩
    have e1 : decide (1 ≤ x.length) = decide (0 < x.length) := rfl
    refine ⟨_, rfl, x, rfl, by rw [sizeLine_eq]; omega, _, _, rfl, rfl, _, rfl, ?_⟩
    by_cases c1 : (0 : Int) < (x.length : Int)
    case neg =>
      rw [decide_eq_false c1]
      have : isNmS x = false := by
        unfold isNmS
        rw [decide_eq_false (by omega)]
        rfl
      rw [this] at k
      exact iteF ⟨_, rfl, iteF (k H (Same.refl _))⟩
    rw [decide_eq_true c1]
    refine iteT ⟨_, _, rfl, rfl, _, rfl, ?_⟩
    by_cases c2 : (x.length : Int) < 7
    case neg =>
      rw [decide_eq_false c2]
      have : isNmS x = false := by
        unfold isNmS
        rw [decide_eq_false (show ¬ x.length ≤ 6 by omega), Bool.and_false]
        rfl
      rw [this] at k
      exact iteF (k H (Same.refl _))
    rw [decide_eq_true c2]
    refine iteT ?_
    have val : isNmS x = x.cps.toList.all okCp := by
      unfold isNmS
      rw [decide_eq_true (by omega), decide_eq_true (by omega)]
      rfl
    refine ⟨_, rfl, x, rfl, fun D hD => ?_⟩
    refine lc_it (walk_str (z := x)) (fun t G => G D = some (.lst (((x.cps.toList.take t).map okCp).map V.bl)) ∧ Same H G) ⟨upd_same, same_upd (Same.refl _) hD⟩ (fun _ _ _ _ => True.intro) ?_ ?_
    · rintro t y G G2 ht ⟨e1, s1⟩ ⟨rfl, c, ec, rfl⟩
      have ec2 : x.cps.toList[t]? = some c := by simpa using ec
      refine ⟨rfl, _, rfl, c, alphaT, rfl, rfl, _, e1, ?_, ?_, same_upd s1 hD⟩
      · rw [List.length_map, List.length_map, List.length_take, sizeLine_eq]
        have z3 : x.cps.toList.length = x.length := rfl
        omega
      · rw [upd_same, List.take_add_one, ec2, List.map_append, List.map_append, alpha_in]
        rfl
    · rintro G ⟨e1, s1⟩
      rw [show x.cps.toList.take x.cps.size = x.cps.toList from List.take_of_length_le (by simp)] at e1
      refine ⟨D, _, rfl, SqL.of e1, ?_⟩
      rw [List.all_map]
      have : (x.cps.toList.all (id ∘ okCp)) = isNmS x := val.symm
      rw [this]
      exact k G s1
end
end Tg

namespace Tg
open PySem L2 Ow
section
variable {P : Program} {w : World} {K : PySem.W.Frag} {mg : Str → Option Value} {base : Heap}
def spLForm : Sp := fun vs H Q _ => ∃ W R wv rv, vs = [wv, rv] ∧ Vd H W wv ∧ Vd H R rv ∧ Lim W ∧ Lim R ∧ ∀ H', Same H H' → Q (.bl (formT W R)) H'
abbrev lfN : List Str := ["_law_places", "_law_edges", "_law_edge", "_law_place", "_law_end"]
theorem scLForm : FnScope lfN ["_law_places", "_law_edges"] (defScope lForm) := ⟨rfl, rfl, rfl, by decide +kernel, rfl, by decide +kernel, by decide +kernel⟩
theorem no_tup {W R : PyData} (h : isTupD W = false ∨ isTupD R = false) : formT W R = false := by
  unfold formT
  rcases h with h | h
  · have : isTupS W = false := by cases W <;> first | rfl | (simp [isTupD] at h)
    rw [this]
    rfl
  · have : edgesD R = false := by cases R <;> first | rfl | (simp [isTupD] at h)
    rw [this, Bool.and_false]
theorem ok_LForm {f : Addr} {fd : FuncData} (F : Fun K "_law_has_form" "_law_has_form" lForm f fd) (T : TxtP mg) : FnOk P w K mg base CX0 2 f fd ["_law_places", "_law_edges"] spLForm := by
  refine F.ok scLForm (fun vs H Q E h => ?_) (fun cdv A outer s H vs Q E hr h => ?_)
  · obtain ⟨W, R, wv, rv, rfl, _⟩ := h
    rfl
  · obtain ⟨W, R, wv, rv, rfl, hw, hrv, lw, lr, k⟩ := h
    have nd := scLForm.nd
    refine ⟨_, (pss_cons (ps_if (PW.pt (pw_or (pt_not (pt_val (pe_callB call_isi (by rfl) T.b_isinstance (by decide +kernel) (pa_cons (pv 0) (pa_cons (pe_bltn (v := .ty "tuple") (by rfl) T.b_tuple (by decide +kernel) rfl) pa_nil))))) (pw_or1 (pt_not (pt_val (pe_callB call_isi (by rfl) T.b_isinstance (by decide +kernel) (pa_cons (pv 1) (pa_cons (pe_bltn (v := .ty "tuple") (by rfl) T.b_tuple (by decide +kernel) rfl) pa_nil))))))))
        (pss_one (ps_ret pe_bl))
        pss_nil)
      (pss_cons (ps_if (pt_not (pt_val (pe_callB (cr_all rfl) (by rfl) T.b_all (by decide +kernel) (pa_cons (pe_lc (own := [("_law_place", 3)]) (g := gName 3) rfl nd (pi_tup (pv 0)) (blkOk_by (own := [("_law_place", 3)]) (N := lfN) (sc := defScope lForm) (by decide +kernel)) (fun _ _ _ _ _ => (pg_name (i := 3) nd rfl (.inl rfl))) (fun _ _ _ _ _ => pts_nil) (fun _ _ _ _ _ => (pe_callB (call_isiB K) (by rfl) T.b_isinstance (by decide +kernel) (pa_cons (pv 3) (pa_cons (pe_bltn (v := .ty "str") (by rfl) T.b_str (by decide +kernel) rfl) pa_nil))))) pa_nil))))
        (pss_one (ps_ret pe_bl))
        pss_nil)
      (pss_cons (ps_for PassesOwn.never rfl (pi_tup (pv 1)) (pg_name (i := 2) nd rfl (.inl rfl))
        (pss_one (ps_if (PW.pt (pw_or (pt_not (pt_val (pe_callB call_isi (by rfl) T.b_isinstance (by decide +kernel) (pa_cons (pv 2) (pa_cons (pe_bltn (v := .ty "tuple") (by rfl) T.b_tuple (by decide +kernel) rfl) pa_nil))))) (pw_or (pt_cmpR op_ne (pe_callB call_len_seq (by rfl) T.b_len PySem.boot_len (pa_cons (pv 2) pa_nil)) pe_int (nomark _)) (pw_or1 (pt_not (pt_val (pe_callB (cr_all rfl) (by rfl) T.b_all (by decide +kernel) (pa_cons (pe_lc (own := [("_law_end", 4)]) (g := gName 4) rfl nd (pi_tup (pv 2)) (blkOk_by (own := [("_law_end", 4)]) (N := lfN) (sc := defScope lForm) (by decide +kernel)) (fun _ _ _ _ _ => (pg_name (i := 4) nd rfl (.inl rfl))) (fun _ _ _ _ _ => pts_nil) (fun _ _ _ _ _ => (pe_callB (call_isiB K) (by rfl) T.b_isinstance (by decide +kernel) (pa_cons (pv 4) (pa_cons (pe_bltn (v := .ty "str") (by rfl) T.b_str (by decide +kernel) rfl) pa_nil))))) pa_nil))))))))
            (pss_one (ps_ret pe_bl))
            pss_nil)))
      (pss_one (ps_ret pe_bl))))), ?_⟩
    refine ⟨_, rfl, _, .ty "tuple", _, _, _, rfl, .ty _, Vd.ty hw, k_tup K _, _, rfl, ?_⟩
    cases c1 : isTupD W
    · rw [no_tup (.inl c1)] at k
      exact iteT (iteT (k H (Same.refl _)))
    refine iteF ?_
    refine ⟨_, rfl, _, .ty "tuple", _, _, _, rfl, .ty _, Vd.ty hrv, k_tup K _, _, rfl, ?_⟩
    cases c2 : isTupD R
    · rw [no_tup (.inr c2)] at k
      exact iteT (k H (Same.refl _))
    refine iteF ?_
    cases W <;> simp [isTupD] at c1
    rename_i ds
    cases R <;> simp [isTupD] at c2
    rename_i es
    obtain ⟨a, xs, rfl, ea, hs⟩ := hw.tup
    obtain ⟨b, ys, rfl, eb, hy⟩ := hrv.tup
    have kk : formT (.tuple ds) (.tuple es) = (ds.all isStrD && es.all isEdgeD) := rfl
    rw [kk] at k
    try dsimp only [tNext]
    refine ⟨_, rfl, a, rfl, ⟨_, SqT.of ea⟩, fun D hD => ?_⟩
    refine lc_tup (K := K) (a := a) (xs := xs) (fun t G => G D = some (.lst (((ds.take t).map isStrD).map V.bl)) ∧ Same H G) ⟨upd_same, same_upd (Same.refl _) hD⟩ (fun t G _ ⟨_, sG⟩ => SqT.of (sG _ _ ea)) ?_ ?_
    · rintro t x G hx ⟨e1, sG⟩
      have ht : t < ds.length := by
        rw [← hs.len]
        exact (List.getElem?_eq_some_iff.mp hx).1
      obtain ⟨d1, x1, hd1, hx1, v1⟩ := hs.at_ ht
      rw [hx] at hx1
      cases hx1
      refine ⟨rfl, _, rfl, _, .ty "str", _, _, _, rfl, .ty _, Vd.ty (v1.keep sG.tkept), k_str K _, _, e1, small2m (by rw [List.length_map, List.length_map, List.length_take]; have := lw.len; omega), ?_, same_upd sG hD⟩
      rw [upd_same, List.take_add_one, hd1, List.map_append, List.map_append]
      rfl
    · rintro G ⟨e1, sG⟩
      rw [hs.len, List.take_length] at e1
      refine ⟨D, _, rfl, SqL.of e1, _, rfl, ?_⟩
      have : (ds.map isStrD).all id = ds.all isStrD := by
        rw [List.all_map]
        rfl
      rw [this]
      cases c3 : ds.all isStrD
      · rw [c3] at k
        exact iteT (k G sG)
      rw [c3, Bool.true_and] at k
      refine iteF ?_
      clear e1
      try dsimp only [tNext]
      refine ⟨_, rfl, b, rfl, ⟨_, SqT.of (sG _ _ eb)⟩, ?_⟩
      refine for_tup (K := K) (a := b) (xs := ys) (fun t σ G => ∃ v2 v3 v4 : Option V, σ = [some (.ref a), some (.ref b), v2, v3, v4] ∧ Same H G ∧ ∀ j, j < t → isEdgeD (es.getD j .none) = true) ⟨_, _, _, rfl, sG, fun j hj => absurd hj (Nat.not_lt_zero _)⟩ (fun t σ G _ ⟨_, _, _, _, s2, _⟩ => SqT.of (s2 _ _ eb)) ?_ ?_
      · rintro t x σ G hx ⟨v2, v3, v4, rfl, sG, hj⟩
        have ht : t < es.length := by
          rw [← hy.len]
          exact (List.getElem?_eq_some_iff.mp hx).1
        obtain ⟨d1, x1, hd1, hx1, v1⟩ := hy.at_ ht
        rw [hx] at hx1
        cases hx1
        have gd1 : es.getD t .none = d1 := by rw [List.getD_eq_getElem?_getD, hd1]; rfl
        have md1 := List.mem_of_getElem? hd1
        have v1G := v1.keep sG.tkept
        have bad : isEdgeD d1 = false → es.all isEdgeD = false := fun c => by
          rw [List.all_eq_false]
          exact ⟨d1, md1, by rw [c]; decide⟩
        refine ⟨_, rfl, _, .ty "tuple", _, _, _, rfl, .ty _, Vd.ty v1G, k_tup K _, _, rfl, ?_⟩
        cases c4 : isTupD d1
        · rw [bad (by cases d1 <;> first | rfl | (simp [isTupD] at c4))] at k
          exact iteT (iteT (k G sG))
        refine iteF ?_
        cases d1 <;> simp [isTupD] at c4
        rename_i fs
        obtain ⟨c, zs, rfl, ec, hz⟩ := v1G.tup
        refine ⟨_, rfl, c, _, rfl, .inr (SqT.of ec), rfl, _, rfl, ?_⟩
        rw [hz.len]
        refine ite2 (fun hn => ?_) (fun hn => ?_)
        · rw [bad (not_edge (by
            intro z
            rw [z] at hn
            simp at hn))] at k
          exact iteT (k G sG)
        have h2 : fs.length = 2 := by
          simp at hn
          omega
        obtain ⟨e1, e2, rfl⟩ : ∃ e1 e2, fs = [e1, e2] := by
          match fs, h2 with
          | [e1, e2], _ => exact ⟨e1, e2, rfl⟩
        obtain ⟨x1, r1, rfl, w1, hs1⟩ := hz.uncons
        obtain ⟨x2, r2, rfl, w2, hs2⟩ := hs1.uncons
        unfold VdA at hs2
        subst hs2
        refine ⟨_, rfl, c, rfl, ⟨_, SqT.of ec⟩, fun D2 hD2 => ?_⟩
        refine lc_tup (K := K) (a := c) (xs := [x1, x2]) (fun t G2 => G2 D2 = some (.lst ((([isStrD e1, isStrD e2] : List Bool).take t).map V.bl)) ∧ Same G G2) ⟨upd_same, same_upd (Same.refl _) hD2⟩ (fun t G2 _ ⟨_, s2⟩ => SqT.of (s2 _ _ ec)) ?_ ?_
        · rintro t2 x G2 hx ⟨q1, s2⟩
          match t2, hx with
          | 0, hx =>
            cases hx
            exact ⟨rfl, _, rfl, _, .ty "str", _, _, _, rfl, .ty _, Vd.ty (w1.keep s2.tkept), k_str K _, _, q1, (by show 0 < sizeLine; decide), by rw [upd_same]; rfl, same_upd s2 hD2⟩
          | 1, hx =>
            cases hx
            exact ⟨rfl, _, rfl, _, .ty "str", _, _, _, rfl, .ty _, Vd.ty (w2.keep s2.tkept), k_str K _, _, q1, (by show 1 < sizeLine; decide), by rw [upd_same]; rfl, same_upd s2 hD2⟩
          | t2 + 2, hx => simp at hx
        · rintro G2 ⟨q1, s2⟩
          refine ⟨D2, [isStrD e1, isStrD e2], rfl, SqL.of q1, _, rfl, ?_⟩
          have eall : ([isStrD e1, isStrD e2] : List Bool).all id = (isStrD e1 && isStrD e2) := by simp
          rw [eall]
          show if (!(isStrD e1 && isStrD e2)) = true then _ else _
          have ed : isEdgeD (.tuple [e1, e2]) = (isStrD e1 && isStrD e2) := rfl
          cases c5 : (isStrD e1 && isStrD e2)
          · rw [bad (ed.trans c5)] at k
            exact iteT (k G2 (sG.trans s2))
          · refine iteF ?_
            refine ⟨_, _, _, rfl, sG.trans s2, fun j hj2 => ?_⟩
            by_cases e : j = t
            · rw [e, gd1]
              exact ed.trans c5
            · exact hj j (by omega)
      · rintro σ G ⟨v2, v3, v4, rfl, sG, hj⟩
        rw [hy.len] at hj
        have : es.all isEdgeD = true := by
          refine List.all_eq_true.mpr fun d hd => ?_
          obtain ⟨j, hj1, hj2⟩ := List.mem_iff_getElem.mp hd
          have := hj j hj1
          rw [List.getD_eq_getElem?_getD, List.getElem?_eq_getElem hj1, hj2] at this
          exact this
        rw [this] at k
        exact k G sG
end
end Tg

namespace Tg
open PySem L2 Ow
abbrev lBent : Stmt := top 38
section
variable {X : Cx}
theorem ix_tupK (K : PySem.W.Frag) (hK : X.K = K := by rfl) : IxR X (rIxT K) := by
  subst hK
  exact ix_tup
theorem op_neDK (K : PySem.W.Frag) (hu : X.A.units + 64 < cLine) (hK : X.K = K := by rfl) : OpR X (compareOp .NotEq) (rNeD K) := by
  subst hK
  exact op_neD hu
end
section
variable {P : Program} {w : World} {K : PySem.W.Frag} {mg : Str → Option Value} {base : Heap}
def spBent : Sp := fun vs H Q _ => ∃ (b L : Addr) (W R : PyData) (wv rv : V) (n S : Nat), vs = [.ref b, wv, rv] ∧ Box b L H ∧ Vd H W wv ∧ Vd H R rv ∧ Good W n S ∧ Good R n S ∧ 2 ≤ n ∧ n ≤ 20 ∧ 5000 ≤ S ∧ S ≤ 400000 ∧
  ∀ a W' R' wv' rv' H', H' a = some (.tup [wv', rv']) → Vd H' W' wv' → Vd H' R' rv' → Good W' (2 * n + 4) (7 * S + 500) → Good R' (2 * n + 4) (7 * S + 500) → Box b L H' → Kp b L H H' → Q (.ref a) H'
abbrev lbN : List Str := ["_law_box_here", "_law_places", "_law_edges", "_law_form", "_law_odd", "_law_near", "_law_both", "_law_a", "_law_b", "_law_at", "_law_more", "_law_thing", "_law_k"]
abbrev lbP : List Str := ["_law_box_here", "_law_places", "_law_edges"]
theorem scBent : FnScope lbN lbP (defScope lBent) := ⟨rfl, rfl, rfl, by decide +kernel, rfl, by decide +kernel, by decide +kernel⟩
/-- a list of values that fit, where it stands -/
structure OddAt (H : Hp) (o : Addr) (ods : List PyData) (k So : Nat) : Prop where
  at_ : ∃ ovs, H o = some (.lst ovs) ∧ VdA H ods ovs
  good : ∀ e ∈ ods, Good e k So
theorem OddAt.same {H H' : Hp} {o : Addr} {ods : List PyData} {k So : Nat} (h : OddAt H o ods k So) (s : Same H H') : OddAt H' o ods k So := by
  obtain ⟨⟨ovs, e, v⟩, g⟩ := h
  exact ⟨⟨ovs, s _ _ e, v.keep s.tkept⟩, g⟩
theorem OddAt.kp {b L : Addr} {H H' : Hp} {o : Addr} {ods : List PyData} {k So : Nat} (h : OddAt H o ods k So) (kk : Kp b L H H') (B : Box b L H) (ob : o ≠ b) (oL : o ≠ L) : OddAt H' o ods k So := by
  obtain ⟨⟨ovs, e, v⟩, g⟩ := h
  exact ⟨⟨ovs, kk _ _ ob oL e, v.keep (kp_tkept kk B)⟩, g⟩
theorem OddAt.mono {H : Hp} {o : Addr} {ods : List PyData} {k So k' So' : Nat} (h : OddAt H o ods k So) (h1 : k ≤ k') (h2 : So ≤ So') : OddAt H o ods k' So' := ⟨h.at_, fun e he => (h.good e he).mono h1 h2⟩
theorem catO {H : Hp} {o p : Addr} {ods es : List PyData} {k So : Nat} {Q : VK} (h : OddAt H o ods k So) (h2 : OddAt H p es k So) (hl : ods.length + es.length ≤ 1000) (q : ∀ r G, H r = none → Same H G → OddAt G r (ods ++ es) k So → Q (.ref r) G) : rCat (.ref o) (.ref p) H Q := by
  obtain ⟨⟨ovs, e, v⟩, g⟩ := h
  obtain ⟨⟨xs, e2, v2⟩, g2⟩ := h2
  refine ⟨o, p, ovs, xs, rfl, rfl, e, e2, ?_, fun r nr => ?_⟩
  · rw [v.len, v2.len]
    rw [sizeLine_eq]
    omega
  · have s := same_upd (o := .lst (ovs ++ xs)) (Same.refl H) nr
    refine q r _ nr s ⟨⟨ovs ++ xs, upd_same, (v.app v2).keep s.tkept⟩, fun x hx => ?_⟩
    rcases List.mem_append.mp hx with h | h
    · exact g x h
    · exact g2 x h
theorem eqv_nil (ds : List PyData) : PyData.eqv (.tuple ds) (.tuple []) = ds.isEmpty := by
  cases ds <;> rfl
theorem eqvL_nil (ds : List PyData) : PyData.eqv (.list ds) (.list []) = ds.isEmpty := by
  cases ds <;> rfl
theorem lits1 : ∀ e ∈ ([.str "a1", .str "a_b", .str "aB", .str "`"] : List PyData), Good e 1 256 := by
  have h : (([.str "a1", .str "a_b", .str "aB", .str "`"] : List PyData).all fun e => gd e && decide (e.depth ≤ 1) && decide (wt e ≤ 256)) = true := by decide +kernel
  intro e he
  have := List.all_eq_true.mp h e he
  simp at this
  exact ⟨this.1.1, this.1.2, this.2⟩
theorem lits2 : ∀ e ∈ ([.str "", .str "A", .str "zzzzzz", .str "zzzzzzz", .int 7, .bool true, .none, .tuple [], .tuple [.str "a"], .tuple [.str "a", .str "b", .str "c"], .int 0] : List PyData), Good e 1 256 := by
  have h : (([.str "", .str "A", .str "zzzzzz", .str "zzzzzzz", .int 7, .bool true, .none, .tuple [], .tuple [.str "a"], .tuple [.str "a", .str "b", .str "c"], .int 0] : List PyData).all fun e => gd e && decide (e.depth ≤ 1) && decide (wt e ≤ 256)) = true := by decide +kernel
  intro e he
  have := List.all_eq_true.mp h e he
  simp only [Bool.and_eq_true, decide_eq_true_eq] at this
  exact ⟨this.1.1, this.1.2, this.2⟩
theorem lits4 : ∀ e ∈ ([.str "a~", .str "{", .str "a|b", .str "}"] : List PyData), Good e 1 256 := by
  have h : (([.str "a~", .str "{", .str "a|b", .str "}"] : List PyData).all fun e => gd e && decide (e.depth ≤ 1) && decide (wt e ≤ 256)) = true := by decide +kernel
  intro e he
  have := List.all_eq_true.mp h e he
  simp only [Bool.and_eq_true, decide_eq_true_eq] at this
  exact ⟨this.1.1, this.1.2, this.2⟩
theorem shapedL {ds : List PyData} {n S : Nat} (h : ∀ d ∈ ds, Good d n S) (hn : n < 64) : SeqAt.shaped (.list ds) = true := by
  have z := (gdA_show (gdA_iff.mpr fun d hd => (h d hd).gd)).2.2.2
  have y := depthA_le fun d hd => (h d hd).dp
  have : PyData.depthAll ds + 1 ≤ 64 := by omega
  simp [SeqAt.shaped, PyData.canLay0, PyData.depth, z]
  omega
/-- a pair of values where it stands -/
structure PrAt (H : Hp) (a : Addr) (W R : PyData) : Prop where
  at_ : ∃ wv rv, H a = some (.tup [wv, rv]) ∧ Vd H W wv ∧ Vd H R rv
theorem PrAt.keep {H H' : Hp} {a : Addr} {W R : PyData} (h : PrAt H a W R) (s : TupKept H H') : PrAt H' a W R := by
  obtain ⟨⟨wv, rv, e, h1, h2⟩⟩ := h
  exact ⟨⟨wv, rv, s _ _ e, h1.keep s, h2.keep s⟩⟩
theorem PrAt.mk2 {H : Hp} {a : Addr} {W R : PyData} {wv rv : V} (n : H a = none) (h1 : Vd H W wv) (h2 : Vd H R rv) : PrAt (upd H a (.tup [wv, rv])) a W R ∧ Same H (upd H a (.tup [wv, rv])) := by
  have s := same_upd (o := .tup [wv, rv]) (Same.refl H) n
  exact ⟨⟨⟨wv, rv, upd_same, h1.keep s.tkept, h2.keep s.tkept⟩⟩, s⟩
theorem mkT0 {H : Hp} {a : Addr} (n : H a = none) : Vd (upd H a (.tup [])) (.tuple []) (.ref a) ∧ Same H (upd H a (.tup [])) := ⟨Vd.ofTup upd_same VdA.nil, same_upd (Same.refl H) n⟩
theorem good0 : Good (.tuple []) 1 10 := ⟨rfl, by decide, by decide⟩
theorem goodN : Good .none 1 10 := ⟨rfl, by decide, by decide⟩
theorem slG_take {K : PySem.W.Frag} {H : Hp} {ds : List PyData} {v : V} {k : Nat} {Q : VK} (hv : Vd H (.tuple ds) v) (q : ∀ u G, Same H G → Vd G (.tuple (ds.take k)) u → Q u G) : rSlA K v none (some (k : Int)) H Q := by
  by_cases hk : k ≤ ds.length
  · exact slA_take hv hk q
  obtain ⟨a, xs, rfl, ea, hs⟩ := hv.tup
  have hl := hs.len
  refine ⟨a, xs, rfl, SqT.of ea, fun _ => ?_, fun h => ?_⟩
  · refine q _ H (Same.refl _) ?_
    rw [List.take_of_length_le (by omega)]
    exact hv
  · exact absurd ⟨rfl, by rw [HT.sIx_nat, Nat.min_eq_right (by omega)]⟩ h
theorem slG_takeE {K : PySem.W.Frag} {H : Hp} {ds : List PyData} {v : V} {k : Nat} {z : Int} {Q : VK} (hz : z = (k : Int)) (hv : Vd H (.tuple ds) v) (q : ∀ u G, Same H G → Vd G (.tuple (ds.take k)) u → Q u G) : rSlA K v none (some z) H Q := by
  subst hz
  exact slG_take hv q
theorem slG_drop {K : PySem.W.Frag} {H : Hp} {ds : List PyData} {v : V} {k : Nat} {z : Int} {Q : VK} (hz : z = (k : Int)) (hv : Vd H (.tuple ds) v) (q : ∀ u G, Same H G → Vd G (.tuple (ds.drop k)) u → Q u G) : rSlA K v (some z) none H Q := by
  subst hz
  by_cases hk : k ≤ ds.length
  · exact slA_drop hv hk q
  obtain ⟨a, xs, rfl, ea, hs⟩ := hv.tup
  have hl := hs.len
  have cu : cutV xs (some (k : Int)) none = [] := by
    unfold cutV
    rw [HT.sIx_none, HT.sIx_nat, Nat.min_eq_right (by omega), Nat.sub_self, List.take_zero]
  refine ⟨a, xs, rfl, SqT.of ea, fun h => ?_, fun _ p np => ?_⟩
  · rw [HT.sIx_nat, Nat.min_eq_right (by omega)] at h
    refine q _ H (Same.refl _) ?_
    have : ds = [] := List.length_eq_zero_iff.mp (by omega)
    rw [this, List.drop_nil]
    rw [this] at hv
    exact hv
  · rw [cu, List.drop_of_length_le (by omega)] at *
    have s : Same H (upd H p (.tup [])) := fun b o e => by
      rw [upd_ne (ne_of_none e np)]
      exact e
    exact q _ _ s (Vd.ofTup upd_same VdA.nil)
theorem formT_tups {W R : PyData} (h : formT W R = true) : ∃ ds es, W = .tuple ds ∧ R = .tuple es := by
  obtain ⟨f1, f2⟩ := Bool.and_eq_true_iff.mp h
  cases W <;> simp [isTupS] at f1
  cases R <;> simp [edgesD] at f2
  exact ⟨_, _, rfl, rfl⟩
theorem zmul {k : Int} (h1 : 1 ≤ k) (h5 : k ≤ 5) : MulOk "z" k ∧ PyData.strOk (Txt.mul "z" k) = true ∧ (Txt.mul "z" k).length ≤ 5 := by
  have cs : k = 1 ∨ k = 2 ∨ k = 3 ∨ k = 4 ∨ k = 5 := by omega
  rcases cs with rfl | rfl | rfl | rfl | rfl <;> exact ⟨by unfold MulOk; decide +kernel, by decide +kernel, by decide +kernel⟩
theorem ok_Bent {f : Addr} {fd : FuncData} (F : Fun K "_law_bent" "_law_bent" lBent f fd) (T : TxtP mg) (cTake : Cal P w K mg base 1 "_law_take" ["_law_box_here", "_law_many"] spTake)
    (cSpaced : Cal P w K mg base 1 "_law_spaced" ["_law_text"] spSpaced) (cChanged : Cal P w K mg base 5 "_law_changed" chP (spChanged 3)) (cHasForm : Cal P w K mg base 2 "_law_has_form" ["_law_places", "_law_edges"] spLForm) : FnOk P w K mg base CX0 6 f fd lbP spBent := by
  refine F.ok scBent (fun vs H Q E h => ?_) (fun cdv A outer s H vs Q E hr h => ?_)
  · obtain ⟨b, L, W, R, wv, rv, n, S, rfl, _⟩ := h
    rfl
  · obtain ⟨b, L, W, R, wv, rv, n, S, rfl, B, hw, hrv, gW, gR, n2, n20, hS0, hS, kk⟩ := h
    have nd := scBent.nd
    refine ⟨_, (pss_cons (ps_par (i := 3) (j := 4) (by rfl) nd rfl rfl (by decide) rfl rfl (pa_cons (pe_cal cTake (hr.mono (by decide)) (by rfl) (pa_cons (pv 0) (pa_cons pe_int pa_nil))) (pa_cons (pe_lst (pa_cons pe_str (pa_cons pe_str (pa_cons pe_str (pa_cons pe_str pa_nil))))) pa_nil)) (by rfl))
      (pss_cons (ps_set (i := 4) nd rfl (.inl rfl) (pe_op op_cat (pv 4) (pe_lst (pa_cons pe_str (pa_cons pe_str (pa_cons pe_str (pa_cons pe_str (pa_cons pe_int (pa_cons pe_bl (pa_cons pe_non (pa_cons (pe_tup pa_nil) (pa_cons (pe_tup (pa_cons pe_str pa_nil)) (pa_cons (pe_tup (pa_cons pe_str (pa_cons pe_str (pa_cons pe_str pa_nil)))) (pa_cons pe_int pa_nil))))))))))))))
      (pss_cons (ps_if (pt_cmpR op_lt (pv 3) pe_int (nomark _))
        (pss_cons (ps_setLc (i := 5) (own := [("_law_thing", 11)]) (g := gName 11) rfl nd rfl rfl (sw_true rfl rfl rfl (by decide +kernel)) (pi_tup (pe_tup (pa_cons (pv 1) (pa_cons (pv 2) pa_nil)))) (blkOk_by (own := [("_law_thing", 11)]) (N := lbN) (sc := defScope lBent) (by decide +kernel)) (fun _ _ _ _ _ => (pg_name (i := 11) nd rfl (.inl rfl))) (fun _ _ _ _ _ => pts_one (PW.pt (pw_and (pt_val (pe_callB (call_isiB K) (by rfl) T.b_isinstance (by decide +kernel) (pa_cons (pv 11) (pa_cons (pe_bltn (v := .ty "tuple") (by rfl) T.b_tuple (by decide +kernel) rfl) pa_nil)))) (pw_and1 (pt_cmpR (op_neDK K hr.units) (pv 11) (pe_tup pa_nil) (nomark _)))))) (fun _ _ _ _ _ => (pe_ix (ix_tupK K) (pv 11) pe_int (fun _ _ => rfl))))
          (pss_cons (ps_set (i := 4) nd rfl (.inl rfl) (pe_op op_cat (pv 4) (pe_lst (pa_cons pe_str (pa_cons pe_str (pa_cons pe_str (pa_cons pe_str pa_nil)))))))
          (pss_cons (ps_if (PW.pt (pw_and (pt_cmpR (op_neD hr.units) (pv 5) (pe_lst pa_nil) (nomark _)) (pw_and1 (pt_val (pe_callB call_isi (by rfl) T.b_isinstance (by decide +kernel) (pa_cons (pe_ix ix_list (pv 5) pe_int (fun _ _ => rfl)) (pa_cons (pe_bltn (v := .ty "str") (by rfl) T.b_str (by decide +kernel) rfl) pa_nil)))))))
            (pss_one (ps_set (i := 4) nd rfl (.inl rfl) (pe_op op_cat (pv 4) (pe_cal cSpaced (hr.mono (by decide)) (by rfl) (pa_cons (pe_ix ix_list (pv 5) pe_int (fun _ _ => rfl)) pa_nil)))))
            pss_nil)
          (pss_cons (ps_set (i := 6) nd rfl (.inl rfl) (pe_cal cChanged (hr.mono (by decide)) (by rfl) (pa_cons (pv 0) (pa_cons (pe_tup (pa_cons (pv 1) (pa_cons (pv 2) pa_nil))) (pa_cons pe_int (pa_cons (pe_op op_cat (pv 4) (pv 5)) pa_nil))))))
          (pss_one (ps_ret (pe_ifExp (PW.pt (pw_and (pt_val (pe_callB call_isi (by rfl) T.b_isinstance (by decide +kernel) (pa_cons (pv 6) (pa_cons (pe_bltn (v := .ty "tuple") (by rfl) T.b_tuple (by decide +kernel) rfl) pa_nil)))) (pw_and1 (pt_cmpR op_eq (pe_callB call_len_seq (by rfl) T.b_len PySem.boot_len (pa_cons (pv 6) pa_nil)) pe_int (nomark _))))) (pv 6) (pe_tup (pa_cons (pv 1) (pa_cons (pv 6) pa_nil))))))))))
        pss_nil)
      (pss_cons (ps_if (PW.pt (pw_or (pt_not (pt_val (pe_cal cHasForm (hr.mono (by decide)) (by rfl) (pa_cons (pv 1) (pa_cons (pv 2) pa_nil))))) (pw_or1 (pt_cmpR op_lt (pe_callB call_len_seq (by rfl) T.b_len PySem.boot_len (pa_cons (pv 1) pa_nil)) pe_int (nomark _)))))
        (pss_one (ps_ret (pe_ix ix_list (pe_lst (pa_cons (pe_tup (pa_cons (pv 1) (pa_cons (pe_tup pa_nil) pa_nil))) (pa_cons (pe_tup (pa_cons (pe_tup pa_nil) (pa_cons (pe_tup pa_nil) pa_nil))) (pa_cons (pe_tup (pa_cons (pe_tup pa_nil) (pa_cons (pv 2) pa_nil))) (pa_cons (pe_tup (pa_cons (pv 1) (pa_cons pe_non pa_nil))) pa_nil))))) (pe_cal cTake (hr.mono (by decide)) (by rfl) (pa_cons (pv 0) (pa_cons pe_int pa_nil))) (fun _ _ => rfl))))
        pss_nil)
      (pss_cons (ps_par (i := 7) (j := 8) (by rfl) nd rfl rfl (by decide) rfl rfl (pa_cons (pe_ix ix_tup (pv 1) (pe_cal cTake (hr.mono (by decide)) (by rfl) (pa_cons (pv 0) (pa_cons (pe_callB call_len_seq (by rfl) T.b_len PySem.boot_len (pa_cons (pv 1) pa_nil)) pa_nil))) (fun _ _ => rfl)) (pa_cons (pe_ix ix_tup (pv 1) (pe_cal cTake (hr.mono (by decide)) (by rfl) (pa_cons (pv 0) (pa_cons (pe_callB call_len_seq (by rfl) T.b_len PySem.boot_len (pa_cons (pv 1) pa_nil)) pa_nil))) (fun _ _ => rfl)) pa_nil)) (by rfl))
      (pss_cons (ps_set (i := 9) nd rfl (.inl rfl) (pe_cal cTake (hr.mono (by decide)) (by rfl) (pa_cons (pv 0) (pa_cons (pe_op op_add (pe_callB call_len_seq (by rfl) T.b_len PySem.boot_len (pa_cons (pv 2) pa_nil)) pe_int) pa_nil))))
      (pss_cons (ps_if (pt_cmpR op_lt (pv 3) pe_int (nomark _))
        (pss_one (ps_ret (pe_tup (pa_cons (pv 1) (pa_cons (pe_op op_catA (pe_op op_catA (pe_slice sl_tupA (pv 2) po_none (po_some (pv 9))) (pe_tup (pa_cons (pe_tup (pa_cons (pv 7) (pa_cons (pv 8) pa_nil))) pa_nil))) (pe_slice sl_tupA (pv 2) (po_some (pe_op op_add (pv 9) (pe_callTy call_int1 (by rfl) T.b_int (by decide +kernel) (pa_cons (pe_cmpR op_eq (pv 3) pe_int (nomark _)) pa_nil)))) po_none)) pa_nil)))))
        pss_nil)
      (pss_cons (ps_if (pt_cmpR op_eq (pv 3) pe_int (nomark _))
        (pss_one (ps_ret (pe_tup (pa_cons (pv 1) (pa_cons (pe_op op_catA (pe_slice sl_tupA (pv 2) po_none (po_some (pv 9))) (pe_slice sl_tupA (pv 2) (po_some (pe_op op_add (pv 9) pe_int)) po_none)) pa_nil)))))
        pss_nil)
      (pss_cons (ps_if (pt_cmpR op_eq (pv 3) pe_int (nomark _))
        (pss_one (ps_ret (pe_tup (pa_cons (pe_op op_catA (pe_op op_catA (pe_slice sl_tupA (pv 1) po_none (po_some (pv 9))) (pe_tup (pa_cons pe_str pa_nil))) (pe_slice sl_tupA (pv 1) (po_some (pv 9)) po_none)) (pa_cons (pv 2) pa_nil)))))
        pss_nil)
      (pss_cons (ps_setLc (i := 10) (own := [("_law_k", 12)]) (g := gName 12) rfl nd rfl rfl (sw_true rfl rfl rfl (by decide +kernel)) (pi_range1 (by rfl) T.b_range (pa_cons pe_int pa_nil)) (blkOk_by (own := [("_law_k", 12)]) (N := lbN) (sc := defScope lBent) (by decide +kernel)) (fun _ _ _ _ _ => (pg_name (i := 12) nd rfl (.inl rfl))) (fun _ _ _ _ _ => pts_nil) (fun _ _ _ _ _ => (pe_op op_add_str (pe_op op_mulStr pe_str (pe_op op_add pe_int (pe_op op_mod (pv 12) pe_int))) (pe_ix ix_str pe_str (pe_op op_fdiv (pv 12) pe_int) (fun _ _ => rfl)))))
      (pss_one (ps_ret (pe_tup (pa_cons (pe_slice sl_tupA (pe_op op_catA (pv 1) (pe_callTy call_tuple_of (by rfl) T.b_tuple (by decide +kernel) (pa_cons (pv 10) pa_nil))) po_none (po_some pe_int)) (pa_cons (pv 2) pa_nil))))))))))))))), ?_⟩
    refine ⟨_, rfl, b, L, 9, rfl, by decide, by decide +kernel, B, fun form H1 a1 c1 B1 k1 => ?_⟩
    refine ⟨(by show 4 ≤ sizeLine; decide), fun l nl => ?_⟩
    have s1 := same_upd (o := .lst [.str "a1", .str "a_b", .str "aB", .str "`"]) (Same.refl H1) nl
    have o1 : OddAt (upd H1 l (.lst [.str "a1", .str "a_b", .str "aB", .str "`"])) l [.str "a1", .str "a_b", .str "aB", .str "`"] 1 256 := ⟨⟨_, upd_same, VdA.cons (Vd.mkStr _) (VdA.cons (Vd.mkStr _) (VdA.cons (Vd.mkStr _) (VdA.cons (Vd.mkStr _) VdA.nil)))⟩, lits1⟩
    refine ⟨_, _, rfl, ?_⟩
    try dsimp only [tNext]
    generalize upd H1 l (.lst [.str "a1", .str "a_b", .str "aB", .str "`"]) = H2 at s1 o1 ⊢
    -- the second row of odd ones
    refine ⟨_, rfl, (by show 0 ≤ sizeLine; decide), fun t1 nt1 => ?_⟩
    have s2 : Same H2 (upd H2 t1 (.tup [])) := same_upd (Same.refl _) nt1
    have v1 : Vd (upd H2 t1 (.tup [])) (.tuple []) (.ref t1) := Vd.ofTup upd_same VdA.nil
    generalize upd H2 t1 (.tup []) = H3 at s2 v1 ⊢
    refine ⟨(by show 1 ≤ sizeLine; decide), fun t2 nt2 => ?_⟩
    have s3 : Same H3 (upd H3 t2 (.tup [.str "a"])) := same_upd (Same.refl _) nt2
    have v2 : Vd (upd H3 t2 (.tup [.str "a"])) (.tuple [.str "a"]) (.ref t2) := Vd.ofTup upd_same (VdA.one (Vd.mkStr _))
    generalize upd H3 t2 (.tup [.str "a"]) = H4 at s3 v2 ⊢
    refine ⟨(by show 3 ≤ sizeLine; decide), fun t3 nt3 => ?_⟩
    have s4 : Same H4 (upd H4 t3 (.tup [.str "a", .str "b", .str "c"])) := same_upd (Same.refl _) nt3
    have v3 : Vd (upd H4 t3 (.tup [.str "a", .str "b", .str "c"])) (.tuple [.str "a", .str "b", .str "c"]) (.ref t3) := Vd.ofTup upd_same (VdA.cons (Vd.mkStr _) (VdA.cons (Vd.mkStr _) (VdA.one (Vd.mkStr _))))
    generalize upd H4 t3 (.tup [.str "a", .str "b", .str "c"]) = H5 at s4 v3 ⊢
    refine ⟨(by show 11 ≤ sizeLine; decide), fun p np => ?_⟩
    have o2 : OddAt (upd H5 p (.lst [.str "", .str "A", .str "zzzzzz", .str "zzzzzzz", .int 7, .bl true, .non, .ref t1, .ref t2, .ref t3, .int 0])) p [.str "", .str "A", .str "zzzzzz", .str "zzzzzzz", .int 7, .bool true, .none, .tuple [], .tuple [.str "a"], .tuple [.str "a", .str "b", .str "c"], .int 0] 1 256 := by
      have s5 := same_upd (o := .lst [.str "", .str "A", .str "zzzzzz", .str "zzzzzzz", .int 7, .bl true, .non, .ref t1, .ref t2, .ref t3, .int 0]) (Same.refl H5) np
      refine ⟨⟨_, upd_same, ?_⟩, lits2⟩
      exact VdA.cons (Vd.mkStr _) (VdA.cons (Vd.mkStr _) (VdA.cons (Vd.mkStr _) (VdA.cons (Vd.mkStr _) (VdA.cons (Vd.mkInt _) (VdA.cons (Vd.mkBl _) (VdA.cons Vd.mkNon (VdA.cons (v1.keep (s3.trans (s4.trans s5)).tkept) (VdA.cons (v2.keep (s4.trans s5).tkept) (VdA.cons (v3.keep s5.tkept) (VdA.one (Vd.mkInt _)))))))))))
    have s5 := same_upd (o := .lst [.str "", .str "A", .str "zzzzzz", .str "zzzzzzz", .int 7, .bl true, .non, .ref t1, .ref t2, .ref t3, .int 0]) (Same.refl H5) np
    have S5 : Same H1 _ := s1.trans (s2.trans (s3.trans (s4.trans s5)))
    have o1 := o1.same (s2.trans (s3.trans (s4.trans s5)))
    clear s1 s2 s3 s4 s5 v1 v2 v3 nt1 nt2 nt3 np nl
    generalize upd H5 p (.lst [.str "", .str "A", .str "zzzzzz", .str "zzzzzzz", .int 7, .bl true, .non, .ref t1, .ref t2, .ref t3, .int 0]) = H6 at o1 o2 S5 ⊢
    refine catO o1 o2 (by decide) fun l3 H9 nl3 s9 o5 => ?_
    have S9 := S5.trans s9
    have fr3 : H1 l3 = none := S5.free nl3
    clear o1 o2 S5 s9 nl3
    have dlen : ([PyData.str "a1", .str "a_b", .str "aB", .str "`"] ++ [.str "", .str "A", .str "zzzzzz", .str "zzzzzzz", .int 7, .bool true, .none, .tuple [], .tuple [.str "a"], .tuple [.str "a", .str "b", .str "c"], .int 0] : List PyData).length = 15 := by decide +kernel
    generalize ([PyData.str "a1", .str "a_b", .str "aB", .str "`"] ++ [.str "", .str "A", .str "zzzzzz", .str "zzzzzzz", .int 7, .bool true, .none, .tuple [], .tuple [.str "a"], .tuple [.str "a", .str "b", .str "c"], .int 0] : List PyData) = ods at o5 dlen
    try dsimp only [tNext]
    have B9 := B1.same S9
    have k9 : Kp b L H H9 := k1.trans (same_kp S9)
    obtain ⟨l3b, l3L⟩ := B1.apart fr3
    have hw9 := (hw.keep (kp_tkept k1 B)).keep S9.tkept
    have hr9 := (hrv.keep (kp_tkept k1 B)).keep S9.tkept
    clear hw hrv B B1 k1 S9 fr3
    -- form < 4
    refine ⟨_, rfl, _, _, rfl, rfl, _, rfl, ?_⟩
    refine ite2 (fun c2 => ?_) (fun c2 => ?_)
    · refine ⟨_, rfl, _, rfl, (by show 2 ≤ sizeLine; decide), fun tp ntp => ⟨tp, rfl, ⟨_, SqT.of upd_same⟩, ?_⟩⟩
      have s10 : Same H9 (upd H9 tp (.tup [wv, rv])) := same_upd (Same.refl _) ntp
      have etp : (upd H9 tp (.tup [wv, rv])) tp = some (.tup [wv, rv]) := upd_same
      generalize upd H9 tp (.tup [wv, rv]) = H10 at s10 etp ⊢
      intro D hD
      have hw10 := hw9.keep s10.tkept
      have hr10 := hr9.keep s10.tkept
      refine lc_tup (K := K) (a := tp) (xs := [wv, rv]) (fun t G => Same H10 G ∧ ∃ acc ds, G D = some (.lst acc) ∧ VdA G ds acc ∧ ds.length ≤ t ∧ ∀ d ∈ ds, Good d (n - 1) S) ⟨same_upd (Same.refl _) hD, [], [], upd_same, VdA.nil, Nat.le_refl _, fun d h => by cases h⟩ (fun t G _ ⟨sG, _⟩ => SqT.of (sG _ _ etp)) ?_ ?_
      · rintro t x G hx ⟨sG, acc, ds, eacc, va, dl, dg⟩
        have tl : t < 2 := (List.getElem?_eq_some_iff.mp hx).1
        obtain ⟨d, hv, gd⟩ : ∃ d, Vd G d x ∧ Good d n S := by
          match t, hx with
          | 0, hx => cases hx; exact ⟨W, hw10.keep sG.tkept, gW⟩
          | 1, hx => cases hx; exact ⟨R, hr10.keep sG.tkept, gR⟩
          | t + 2, hx => simp at hx
        refine ⟨rfl, _, rfl, _, .ty "tuple", _, _, _, rfl, .ty _, Vd.ty hv, k_tup K _, ?_⟩
        refine ⟨_, rfl, ?_⟩
        cases ct : isTupD d
        · exact iteF ⟨sG, acc, ds, eacc, va, by omega, dg⟩
        refine iteT ?_
        cases d <;> simp [isTupD] at ct
        rename_i es
        obtain ⟨a, xs, rfl, ea, hs⟩ := hv.tup
        refine ⟨_, rfl, (by show 0 ≤ sizeLine; decide), fun t0 nt0 => ?_⟩
        have s0 : Same G (upd G t0 (.tup [])) := same_upd (Same.refl _) nt0
        have v0 : Vd (upd G t0 (.tup [])) (.tuple []) (.ref t0) := Vd.ofTup upd_same VdA.nil
        have hv0 := hv.keep s0.tkept
        have va0 := va.keep s0.tkept
        have eacc0 := s0 _ _ eacc
        have ea0 := s0 _ _ ea
        have hs0 := hs.keep s0.tkept
        have sG0 := sG.trans s0
        generalize upd G t0 (.tup []) = G0 at s0 v0 hv0 va0 eacc0 ea0 hs0 sG0 ⊢
        refine ⟨.tuple es, .tuple [], hv0.dp, v0.dp, gd.shaped (by omega), by decide +kernel, ?_⟩
        rw [eqv_nil]
        refine ⟨_, rfl, ?_⟩
        cases es with
        | nil => exact iteF ⟨sG0, acc, ds, eacc0, va0, by omega, dg⟩
        | cons e1 es =>
          refine iteT ?_
          obtain ⟨x1, xr, rfl, vx1, _⟩ := hs0.uncons
          refine ⟨_, rfl, a, _, _, _, rfl, rfl, SqT.of ea0, (atI_nat (j := 0) rfl), acc, eacc0, ?_, same_upd sG0 hD, acc ++ [x1], ds ++ [e1], upd_same, ?_, ?_, ?_⟩
          · rw [va0.len, sizeLine_eq]
            omega
          · exact (va0.app (VdA.one vx1)).keep (tkept_lst eacc0)
          · rw [List.length_append]
            show ds.length + 1 ≤ t + 1
            omega
          · intro d hd
            rcases List.mem_append.mp hd with h | h
            · exact dg d h
            · simp at h
              subst h
              exact gd.items _ List.mem_cons_self
      · rintro H11 ⟨sG, acc, ds, eacc, va, dl, dg⟩
        have dl : ds.length ≤ 2 := dl
        try dsimp only [tNext]
        refine ⟨_, rfl, (by show 4 ≤ sizeLine; decide), fun q nq => ?_⟩
        have s12 := same_upd (o := .lst [.str "a~", .str "{", .str "a|b", .str "}"]) (Same.refl H11) nq
        have o6 : OddAt (upd H11 q (.lst [.str "a~", .str "{", .str "a|b", .str "}"])) q [.str "a~", .str "{", .str "a|b", .str "}"] 1 256 := ⟨⟨_, upd_same, VdA.cons (Vd.mkStr _) (VdA.cons (Vd.mkStr _) (VdA.cons (Vd.mkStr _) (VdA.one (Vd.mkStr _))))⟩, lits4⟩
        have o5 := o5.same (s10.trans (sG.trans s12))
        have oD : OddAt H11 D ds (n - 1) S := ⟨⟨acc, eacc, va⟩, dg⟩
        have oD := oD.same s12
        have S12 := s10.trans (sG.trans s12)
        generalize upd H11 q (.lst [.str "a~", .str "{", .str "a|b", .str "}"]) = H12 at o5 o6 oD S12 ⊢
        refine catO o5 o6 (by rw [dlen]; decide) fun l4 H13 nl4 s13 o7 => ?_
        have oD := oD.same s13
        have S13 := S12.trans s13
        have o7 := o7.mono (k' := n) (So' := S + 400) (by omega) (by omega)
        have o7l : (ods ++ [.str "a~", .str "{", .str "a|b", .str "}"] : List PyData).length = 19 := by rw [List.length_append, dlen]; rfl
        generalize (ods ++ [.str "a~", .str "{", .str "a|b", .str "}"] : List PyData) = od2 at o7 o7l
        have B13 := B9.same S13
        have k13 := k9.trans (same_kp S13)
        obtain ⟨l4b, l4L⟩ := (B9.same S12).apart nl4
        obtain ⟨Db, DL⟩ := (B9.same s10).apart hD
        have hw13 := hw9.keep S13.tkept
        have hr13 := hr9.keep S13.tkept
        clear o5 o6 s10 sG s12 s13 S12 S13 eacc va dg hD ntp etp B9 k9 hw9 hr9 hw10 hr10
        try dsimp only [tNext]
        refine seq_rest (fun σ1 G => ∃ (o : Addr) (od3 : List PyData), σ1 = [some (.ref b), some wv, some rv, some (.int form), some (.ref o), some (.ref D), none, none, none, none, none, none, none] ∧ OddAt G o od3 n (S + 400) ∧ 1 ≤ od3.length ∧ od3.length ≤ 26 ∧ o ≠ b ∧ o ≠ L ∧ Same H13 G) ?_ (fun rest => ?_)
        rotate_left
        · refine ⟨_, rfl, (by show 0 ≤ sizeLine; decide), fun e0 ne0 => ?_⟩
          have s14 := same_upd (o := .lst []) (Same.refl H13) ne0
          have le0 : (upd H13 e0 (.lst [])) e0 = some (.lst []) := upd_same
          generalize upd H13 e0 (.lst []) = H14 at s14 le0 ⊢
          obtain ⟨⟨acc, eacc, va⟩, dg⟩ := oD.same s14
          refine ⟨.list ds, .list [], .lst (SqL.of eacc) va.dp, .lst (SqL.of le0) .nil, shapedL dg (by omega), by decide +kernel, ?_⟩
          rw [eqvL_nil]
          refine ⟨_, rfl, ?_⟩
          cases ds with
          | nil => exact iteF (iteF (rest _ _ ⟨l4, od2, rfl, o7.same s14, by omega, by omega, l4b, l4L, s14⟩))
          | cons e1 es =>
            refine iteT ?_
            obtain ⟨x1, xr, rfl, vx1, _⟩ := va.uncons
            refine ⟨_, rfl, D, _, _, _, rfl, rfl, SqL.of eacc, (atI_nat (j := 0) rfl), _, .ty "str", _, _, _, rfl, .ty _, Vd.ty vx1, k_str K _, _, rfl, ?_⟩
            cases cs : isStrD e1
            · exact iteF (rest _ _ ⟨l4, od2, rfl, o7.same s14, by omega, by omega, l4b, l4L, s14⟩)
            refine iteT ?_
            obtain ⟨x, rfl⟩ : ∃ x, e1 = .str x := by
              cases e1 <;> simp [isStrD] at cs
              exact ⟨_, rfl⟩
            have hx := vx1.str
            subst hx
            have gx := dg _ List.mem_cons_self
            have gw : 10 * x.length + 10 ≤ S := gx.wt
            refine ⟨_, rfl, _, rfl, D, _, _, _, rfl, rfl, SqL.of eacc, (atI_nat (j := 0) rfl), x, rfl, by omega, gx.gd, fun lz zs xs G nlz elz sz vz lz4 gz => ?_⟩
            refine catO ((o7.same s14).same sz) (⟨⟨xs, elz, vz⟩, fun d hd => (gz d hd).mono (by omega) (by omega)⟩ : OddAt G lz zs n (S + 400)) (by omega) fun r G2 nr s15 o8 => ?_
            have S15 := s14.trans (sz.trans s15)
            obtain ⟨rb, rL⟩ := (B13.same (s14.trans sz)).apart nr
            exact rest _ _ ⟨r, _, rfl, o8, by rw [List.length_append]; omega, by rw [List.length_append]; omega, rb, rL, S15⟩
        rintro σ1 G ⟨o, od3, rfl, o9, od1, od26, ob, oL, s16⟩
        try dsimp only [tNext]
        refine ⟨_, rfl, _, rfl, _, rfl, (by show 2 ≤ sizeLine; decide), fun tq ntq => ?_⟩
        have s17 : Same G (upd G tq (.tup [wv, rv])) := same_upd (Same.refl _) ntq
        have etq : (upd G tq (.tup [wv, rv])) tq = some (.tup [wv, rv]) := upd_same
        generalize upd G tq (.tup [wv, rv]) = G2 at s17 etq ⊢
        refine ⟨_, rfl, _, rfl, catO (o9.same s17) (((oD.mono (by omega) (by omega)).same s16).same s17) (by omega) fun r G3 nr s18 o10 => ?_⟩
        have S18 := s16.trans (s17.trans s18)
        obtain ⟨rb, rL⟩ := (B13.same (s16.trans s17)).apart nr
        have hw18 := hw13.keep S18.tkept
        have hr18 := hr13.keep S18.tkept
        have k18 := k13.trans (same_kp S18)
        obtain ⟨⟨ovs, er, vr⟩, gr⟩ := o10
        have gwr := gW.wt
        have grr := gR.wt
        refine ⟨b, L, r, .tuple [W, R], .ref tq, _, ovs, n + 1, 2 * S + 14, n, S + 400, rfl, B13.same S18, Vd.ofTup (s18 _ _ etq) (VdA.cons hw18 (VdA.one hr18)), Good.made (fun e he => ?_) ?_, er, rb, rL, vr, by rw [List.length_append]; omega, by rw [List.length_append]; omega, gr, by omega, fun u e H' vu gu Bx kx => ?_⟩
        · rcases List.mem_cons.mp he with rfl | he
          · exact gW.mono (Nat.le_refl _) (by omega)
          · simp at he
            subst he
            exact gR.mono (Nat.le_refl _) (by omega)
        · show wt W + 2 + (wt R + 2 + 0) + 10 ≤ _
          omega
        have tk := kp_tkept kx (B13.same S18)
        have kF := k18.trans kx
        have gu2 := gu.mono (n' := 2 * n + 4) (S' := 7 * S + 500) (by omega) (by omega)
        try dsimp only [tNext]
        refine ⟨_, rfl, _, .ty "tuple", _, _, _, rfl, .ty _, Vd.ty vu, k_tup K _, _, rfl, ?_⟩
        have other : ∀ t, H' t = none → Q (.ref t) (upd H' t (.tup [wv, u])) := fun t nt => by
          have st := same_upd (o := .tup [wv, u]) (Same.refl H') nt
          exact kk t W e wv u _ upd_same ((hw18.keep tk).keep st.tkept) (vu.keep st.tkept) (gW.mono (by omega) (by omega)) gu2 (Bx.same st) (kF.trans (same_kp st))
        cases ct : isTupD e
        · exact iteF ⟨_, rfl, _, rfl, (by show 2 ≤ sizeLine; decide), other⟩
        refine iteT ?_
        cases e <;> simp [isTupD] at ct
        rename_i es
        obtain ⟨a, xs, rfl, ea, hs⟩ := vu.tup
        refine ⟨_, rfl, a, _, rfl, .inr (SqT.of ea), rfl, _, rfl, ?_⟩
        rw [hs.len]
        refine ite2 (fun c3 => ?_) (fun c3 => ?_)
        · have h2 : es.length = 2 := by
            simp at c3
            omega
          obtain ⟨e1, e2, rfl⟩ : ∃ e1 e2, es = [e1, e2] := by
            match es, h2 with
            | [e1, e2], _ => exact ⟨e1, e2, rfl⟩
          obtain ⟨x1, r1, rfl, v1, hs1⟩ := hs.uncons
          obtain ⟨x2, r2, rfl, v2, hs2⟩ := hs1.uncons
          unfold VdA at hs2
          subst hs2
          exact ⟨_, rfl, kk a e1 e2 x1 x2 H' ea v1 v2 ((gu2.items _ List.mem_cons_self).mono (by omega) (Nat.le_refl _)) ((gu2.items _ (List.mem_cons_of_mem _ List.mem_cons_self)).mono (by omega) (Nat.le_refl _)) Bx kF⟩
        · exact ⟨_, rfl, _, rfl, (by show 2 ≤ sizeLine; decide), other⟩
    -- form from 4 on
    try dsimp only [tNext]
    have LW : Lim W := by
      have := gW.wt
      show wt W ≤ 4000000
      omega
    have LR : Lim R := by
      have := gR.wt
      show wt R ≤ 4000000
      omega
    have pr : ∀ {a : Addr} {W' R' : PyData} {G : Hp}, PrAt G a W' R' → Good W' (2 * n + 4) (7 * S + 500) → Good R' (2 * n + 4) (7 * S + 500) → Box b L G → Kp b L H9 G → Q (.ref a) G := fun ⟨⟨wv', rv', e, h1, h2⟩⟩ g1 g2 BB kG => kk _ _ _ wv' rv' _ e h1 h2 g1 g2 BB (k9.trans kG)
    have g0 : Good (.tuple []) (2 * n + 4) (7 * S + 500) := good0.mono (by omega) (by omega)
    have gN : Good .none (2 * n + 4) (7 * S + 500) := goodN.mono (by omega) (by omega)
    have gW4 : Good W (2 * n + 4) (7 * S + 500) := gW.mono (by omega) (by omega)
    have gR4 : Good R (2 * n + 4) (7 * S + 500) := gR.mono (by omega) (by omega)
    have four : ∀ {σ : L2.St} {G : Hp} {D : Ends}, σ[0]? = some (some (.ref b)) → σ[1]? = some (some wv) → σ[2]? = some (some rv) → D.rt = Q → Same H9 G →
        tRet (tOp (rIxL K) (tLst (tCons (tTup (tCons (tVar 1) (tCons (tTup tNil) tNil))) (tCons (tTup (tCons (tTup tNil) (tCons (tTup tNil) tNil))) (tCons (tTup (tCons (tTup tNil) (tCons (tVar 2) tNil))) (tCons (tTup (tCons (tVar 1) (tCons (tC V.non) tNil))) tNil))))) (tCall spTake [] E0 (tCons (tVar 0) (tCons (tC (V.int 4)) tNil)))) D σ G := by
      intro σ G D e0 e1 e2 eD sG
      have hwG := hw9.keep sG.tkept
      have hrG := hr9.keep sG.tkept
      refine ⟨_, e1, (by show 0 ≤ sizeLine; decide), fun z1 n1 => ?_⟩
      obtain ⟨w1, y1⟩ := mkT0 n1
      generalize upd G z1 (.tup []) = J1 at w1 y1 ⊢
      refine ⟨(by show 2 ≤ sizeLine; decide), fun z2 n2 => ?_⟩
      obtain ⟨p2, y2⟩ := PrAt.mk2 n2 (hwG.keep y1.tkept) w1
      generalize upd J1 z2 (.tup [wv, .ref z1]) = J2 at p2 y2 ⊢
      refine ⟨(by show 0 ≤ sizeLine; decide), fun z3 n3 => ?_⟩
      obtain ⟨w3, y3⟩ := mkT0 n3
      generalize upd J2 z3 (.tup []) = J3 at w3 y3 ⊢
      refine ⟨(by show 0 ≤ sizeLine; decide), fun z4 n4 => ?_⟩
      obtain ⟨w4, y4⟩ := mkT0 n4
      generalize upd J3 z4 (.tup []) = J4 at w4 y4 ⊢
      refine ⟨(by show 2 ≤ sizeLine; decide), fun z5 n5 => ?_⟩
      obtain ⟨p5, y5⟩ := PrAt.mk2 n5 (w3.keep y4.tkept) w4
      generalize upd J4 z5 (.tup [.ref z3, .ref z4]) = J5 at p5 y5 ⊢
      refine ⟨(by show 0 ≤ sizeLine; decide), fun z6 n6 => ?_⟩
      obtain ⟨w6, y6⟩ := mkT0 n6
      generalize upd J5 z6 (.tup []) = J6 at w6 y6 ⊢
      have Y6 := y1.trans (y2.trans (y3.trans (y4.trans (y5.trans y6))))
      refine ⟨_, e2, (by show 2 ≤ sizeLine; decide), fun z7 n7 => ?_⟩
      obtain ⟨p7, y7⟩ := PrAt.mk2 n7 w6 (hrG.keep Y6.tkept)
      generalize upd J6 z7 (.tup [.ref z6, rv]) = J7 at p7 y7 ⊢
      refine ⟨_, e1, (by show 2 ≤ sizeLine; decide), fun z8 n8 => ?_⟩
      obtain ⟨p8, y8⟩ := PrAt.mk2 n8 (hwG.keep (Y6.trans y7).tkept) (Vd.mkNon (H := J7))
      generalize upd J7 z8 (.tup [wv, .non]) = J8 at p8 y8 ⊢
      refine ⟨(by show 4 ≤ sizeLine; decide), fun zl nl9 => ?_⟩
      have y9 := same_upd (o := .lst [.ref z2, .ref z5, .ref z7, .ref z8]) (Same.refl J8) nl9
      have el9 : (upd J8 zl (.lst [.ref z2, .ref z5, .ref z7, .ref z8])) zl = some (.lst [.ref z2, .ref z5, .ref z7, .ref z8]) := upd_same
      generalize upd J8 zl (.lst [.ref z2, .ref z5, .ref z7, .ref z8]) = J9 at y9 el9 ⊢
      have q2 := p2.keep (y3.trans (y4.trans (y5.trans (y6.trans (y7.trans (y8.trans y9)))))).tkept
      have q5 := p5.keep (y6.trans (y7.trans (y8.trans y9))).tkept
      have q7 := p7.keep (y8.trans y9).tkept
      have q8 := p8.keep y9.tkept
      have Y9 := sG.trans (Y6.trans (y7.trans (y8.trans y9)))
      have fz : H9 zl = none := (sG.trans (Y6.trans (y7.trans y8))).free nl9
      obtain ⟨zb, zL⟩ := B9.apart fz
      refine ⟨_, e0, b, L, 4, rfl, by decide, by decide +kernel, B9.same Y9, fun d J10 a2 c3 B10 k10 => ?_⟩
      have tk := kp_tkept k10 (B9.same Y9)
      have kG := (same_kp (b := b) (L := L) Y9).trans k10
      have el10 := k10 _ _ zb zL el9
      have cs : d = 0 ∨ d = 1 ∨ d = 2 ∨ d = 3 := by omega
      rcases cs with rfl | rfl | rfl | rfl
      · refine ⟨zl, _, _, _, rfl, rfl, SqL.of el10, (atI_nat (j := 0) rfl), ?_⟩
        rw [eD]
        exact pr (q2.keep tk) gW4 g0 B10 kG
      · refine ⟨zl, _, _, _, rfl, rfl, SqL.of el10, (atI_nat (j := 1) rfl), ?_⟩
        rw [eD]
        exact pr (q5.keep tk) g0 g0 B10 kG
      · refine ⟨zl, _, _, _, rfl, rfl, SqL.of el10, (atI_nat (j := 2) rfl), ?_⟩
        rw [eD]
        exact pr (q7.keep tk) g0 gR4 B10 kG
      · refine ⟨zl, _, _, _, rfl, rfl, SqL.of el10, (atI_nat (j := 3) rfl), ?_⟩
        rw [eD]
        exact pr (q8.keep tk) gW4 gN B10 kG
    refine seq_rest (fun σ1 G => σ1 = [some (.ref b), some wv, some rv, some (.int form), some (.ref l3), none, none, none, none, none, none, none, none] ∧ Same H9 G ∧ formT W R = true ∧ 2 ≤ (itemsD W).length) ?_ (fun rest => ?_)
    rotate_left
    · refine ⟨_, rfl, _, rfl, W, R, wv, rv, rfl, hw9, hr9, LW, LR, fun H2 s2 => ⟨_, rfl, ?_⟩⟩
      cases hf : formT W R
      · exact iteT (four rfl rfl rfl rfl s2)
      refine iteF ?_
      obtain ⟨ds, es, eW, eR⟩ := formT_tups hf
      have hw2 := hw9.keep s2.tkept
      rw [eW] at hw2
      obtain ⟨a, xs, ewv, ea, hs⟩ := hw2.tup
      refine ⟨_, rfl, a, xs, by rw [ewv], .inr (SqT.of ea), _, _, rfl, rfl, _, rfl, ?_⟩
      refine ite2 (fun c => four rfl rfl rfl rfl s2) (fun c => ?_)
      refine rest _ _ ⟨rfl, s2, hf, ?_⟩
      rw [eW]
      show 2 ≤ ds.length
      have := hs.len
      simp at c
      omega
    rintro σ1 H10 ⟨rfl, s10, hf, hne⟩
    clear four
    obtain ⟨ds, es, rfl, rfl⟩ := formT_tups hf
    have lpos : 2 ≤ ds.length := hne
    have dS := gW.lenS
    have eS := gR.lenS
    have wS : wtA ds + 10 ≤ S := gW.wt
    have rS : wtA es + 10 ≤ S := gR.wt
    obtain ⟨a, xs, rfl, ea, hs⟩ := (hw9.keep s10.tkept).tup
    obtain ⟨c, ys, rfl, ec, hy⟩ := (hr9.keep s10.tkept).tup
    have hxl := hs.len
    have hyl := hy.len
    have B10 := B9.same s10
    have lg : ∀ z : Int, 0 ≤ z → z ≤ 200001 → z.natAbs.log2 < 9000 := fun z h0 h1 => by
      have : z.natAbs < 2 ^ 20 := by
        have e : (2 : Nat) ^ 20 = 1048576 := by decide
        omega
      exact Nat.lt_of_lt_of_le (PySem.Flt.log2_lt_of (by decide) this) (by decide)
    try dsimp only [tNext]
    -- two of the places
    refine ⟨_, rfl, _, rfl, _, rfl, a, _, rfl, .inr (SqT.of ea), b, L, _, rfl, by omega, lg _ (by omega) (by omega), B10, fun d1 J1 a2 c3 B11 k11 => ?_⟩
    obtain ⟨i1, rfl⟩ : ∃ i : Nat, d1 = i := ⟨d1.toNat, by omega⟩
    have t11 := kp_tkept k11 B10
    obtain ⟨da, xa, eda, exa, va⟩ := (hs.keep t11).at_ (show i1 < ds.length by omega)
    refine ⟨a, _, _, _, rfl, rfl, SqT.of (t11 _ _ ea), atI_nat exa, _, rfl, _, rfl, _, rfl, a, _, rfl, .inr (SqT.of (t11 _ _ ea)), b, L, _, rfl, by omega, lg _ (by omega) (by omega), B11, fun d2 J2 a4 c4 B12 k12 => ?_⟩
    obtain ⟨i2, rfl⟩ : ∃ i : Nat, d2 = i := ⟨d2.toNat, by omega⟩
    have t12 := t11.trans (kp_tkept k12 B11)
    obtain ⟨db, xb, edb, exb, vb⟩ := (hs.keep t12).at_ (show i2 < ds.length by omega)
    refine ⟨a, _, _, _, rfl, rfl, SqT.of (t12 _ _ ea), atI_nat exb, _, _, rfl, ?_⟩
    try dsimp only [tNext]
    refine ⟨_, rfl, _, rfl, c, _, rfl, .inr (SqT.of (t12 _ _ ec)), _, _, rfl, rfl, b, L, _, rfl, by omega, lg _ (by omega) (by omega), B12, fun at1 J3 a5 c5 B15 k13 => ?_⟩
    obtain ⟨i3, rfl⟩ : ∃ i : Nat, at1 = i := ⟨at1.toNat, by omega⟩
    try dsimp only [tNext]
    have t15 := t12.trans (kp_tkept k13 B12)
    have K15 : Kp b L H9 J3 := (same_kp s10).trans (k11.trans (k12.trans k13))
    have va6 := va.keep ((kp_tkept k12 B11).trans (kp_tkept k13 B12))
    have vb6 := vb.keep (kp_tkept k13 B12)
    have ea6 := t15 _ _ ea
    have ec6 := t15 _ _ ec
    have hW6 : Vd J3 (.tuple ds) (.ref a) := Vd.ofTup ea6 (hs.keep t15)
    have hR6 : Vd J3 (.tuple es) (.ref c) := Vd.ofTup ec6 (hy.keep t15)
    clear t11 t12 t15 k11 k12 k13 va vb ea ec hs hy B10 B11 B12 hw9 hr9
    have szl : ∀ z : Nat, z ≤ 2000000 → z ≤ sizeLine := fun z hz => by
      rw [sizeLine_eq]
      omega
    have mda := List.mem_of_getElem? eda
    have mdb := List.mem_of_getElem? edb
    -- form < 6
    refine ⟨_, rfl, _, _, rfl, rfl, _, rfl, ?_⟩
    refine ite2 (fun f1 => ?_) (fun f1 => ?_)
    · refine ⟨_, rfl, _, rfl, _, rfl, _, rfl, slG_take (K := K) hR6 fun u1 G1 s1 vu1 => ?_⟩
      refine ⟨_, rfl, _, rfl, (by show 2 ≤ sizeLine; decide), fun r nr => ?_⟩
      have s2 := same_upd (o := .tup [xa, xb]) (Same.refl G1) nr
      have vr : Vd (upd G1 r (.tup [xa, xb])) (.tuple [da, db]) (.ref r) := Vd.ofTup upd_same (VdA.cons (va6.keep (s1.trans s2).tkept) (VdA.one (vb6.keep (s1.trans s2).tkept)))
      generalize upd G1 r (.tup [xa, xb]) = G2 at s2 vr ⊢
      refine ⟨(by show 1 ≤ sizeLine; decide), fun t nt => ?_⟩
      have s3 := same_upd (o := .tup [.ref r]) (Same.refl G2) nt
      have vt : Vd (upd G2 t (.tup [.ref r])) (.tuple [.tuple [da, db]]) (.ref t) := Vd.ofTup upd_same (VdA.one (vr.keep s3.tkept))
      generalize upd G2 t (.tup [.ref r]) = G3 at s3 vt ⊢
      refine catA (K := K) (vu1.keep (s2.trans s3).tkept) vt (szl _ (by rw [List.length_take]; show _ + 1 ≤ _; omega)) fun u3 G4 s4 vu3 => ?_
      refine ⟨_, rfl, _, rfl, _, rfl, rfl, .inr ⟨_, rfl, _, _, rfl, rfl, _, rfl, ?_⟩⟩
      dsimp only [tNoPart]
      have wd : ∀ k, i3 ≤ k → wtA (es.take i3) + wtA (es.drop k) ≤ wtA es := fun k hk => by
        have h1 := wtA_take_drop es i3
        have h2 : es.drop k = (es.drop i3).drop (k - i3) := by rw [List.drop_drop]; congr 1; omega
        have h3 := wtA_sub (List.drop_sublist (k - i3) (es.drop i3))
        rw [← h2] at h3
        omega
      obtain ⟨kz, hz, hk3⟩ : ∃ kz : Nat, ((i3 : Int) + (if decide (V.int form = V.int 5) = true then 1 else 0)) = (kz : Int) ∧ i3 ≤ kz := by
        by_cases q : decide (V.int form = V.int 5) = true
        · exact ⟨i3 + 1, by rw [if_pos q]; omega, by omega⟩
        · exact ⟨i3, by rw [if_neg q]; omega, Nat.le_refl _⟩
      refine slG_drop (K := K) (k := kz) hz (hR6.keep (s1.trans (s2.trans (s3.trans s4))).tkept) fun u4 G5 s5 vu4 => ?_
      refine catA (K := K) (vu3.keep s5.tkept) vu4 (szl _ (by rw [List.length_append, List.length_take, List.length_drop]; show _ + 1 + _ ≤ _; omega)) fun u5 G6 s6 vu5 => ?_
      have sx := s1.trans (s2.trans (s3.trans (s4.trans (s5.trans s6))))
      refine ⟨(by show 2 ≤ sizeLine; decide), fun o no => ?_⟩
      obtain ⟨po, so⟩ := PrAt.mk2 no (hW6.keep sx.tkept) vu5
      have wd2 := wd kz hk3
      have wa := wtA_mem mda
      have wb := wtA_mem mdb
      refine pr po gW4 (Good.mono (Good.made (n := n + 1) (S := 4 * S + 300) (fun y hy => ?_) ?_) (by omega) (by omega)) ((B15.same sx).same so) (K15.trans (same_kp (sx.trans so)))
      · rcases List.mem_append.mp hy with h | h
        · rcases List.mem_append.mp h with h | h
          · exact (gR.items y (take_mem h)).mono (by omega) (by omega)
          · simp at h
            subst h
            refine Good.mono (Good.made (n := n) (S := 4 * S + 300) (fun z hz => ?_) ?_) (Nat.le_refl _) (Nat.le_refl _)
            · rcases List.mem_cons.mp hz with rfl | hz
              · exact (gW.items _ mda).mono (by omega) (by omega)
              simp at hz
              subst hz
              exact (gW.items _ mdb).mono (by omega) (by omega)
            · show wt da + 2 + (wt db + 2 + 0) + 10 ≤ _
              omega
        · exact (gR.items y (drop_mem h)).mono (by omega) (by omega)
      · rw [wtA_app, wtA_app]
        show _ + (wt da + 2 + (wt db + 2 + 0) + 10 + 2 + 0) + _ + 10 ≤ _
        omega
    try dsimp only [tNext]
    -- form == 6
    refine ⟨_, rfl, rfl, _, rfl, ?_⟩
    refine ite2 (fun f2 => ?_) (fun f2 => ?_)
    · refine ⟨_, rfl, _, rfl, _, rfl, _, rfl, slG_take (K := K) hR6 fun u1 G1 s1 vu1 => ?_⟩
      refine ⟨_, rfl, _, rfl, _, _, rfl, rfl, _, rfl, ?_⟩
      dsimp only [tNoPart]
      refine slG_drop (K := K) (k := i3 + 1) (by omega) (hR6.keep s1.tkept) fun u2 G2 s2 vu2 => ?_
      refine catA (K := K) (vu1.keep s2.tkept) vu2 (szl _ (by rw [List.length_take, List.length_drop]; omega)) fun u3 G3 s3 vu3 => ?_
      have sx := s1.trans (s2.trans s3)
      refine ⟨(by show 2 ≤ sizeLine; decide), fun o no => ?_⟩
      obtain ⟨po, so⟩ := PrAt.mk2 no (hW6.keep sx.tkept) vu3
      have w1 := wtA_sub (List.take_sublist i3 es)
      have w2 := wtA_sub (List.drop_sublist (i3 + 1) es)
      refine pr po gW4 (Good.mono (Good.made (n := n) (S := 3 * S) (fun y hy => ?_) ?_) (by omega) (by omega)) ((B15.same sx).same so) (K15.trans (same_kp (sx.trans so)))
      · rcases List.mem_append.mp hy with h | h
        · exact (gR.items y (take_mem h)).mono (by omega) (by omega)
        · exact (gR.items y (drop_mem h)).mono (by omega) (by omega)
      · rw [wtA_app]
        omega
    try dsimp only [tNext]
    -- form == 7
    refine ⟨_, rfl, rfl, _, rfl, ?_⟩
    refine ite2 (fun f3 => ?_) (fun f3 => ?_)
    · refine ⟨_, rfl, _, rfl, _, rfl, slG_take (K := K) hW6 fun u1 G1 s1 vu1 => ?_⟩
      refine ⟨(by show 1 ≤ sizeLine; decide), fun t nt => ?_⟩
      have s2 := same_upd (o := .tup [.str "zzzzzz"]) (Same.refl G1) nt
      have vt : Vd (upd G1 t (.tup [.str "zzzzzz"])) (.tuple [.str "zzzzzz"]) (.ref t) := Vd.ofTup upd_same (VdA.one (Vd.mkStr _))
      generalize upd G1 t (.tup [.str "zzzzzz"]) = G2 at s2 vt ⊢
      refine catA (K := K) (vu1.keep s2.tkept) vt (szl _ (by rw [List.length_take]; show _ + 1 ≤ _; omega)) fun u3 G3 s3 vu3 => ?_
      refine ⟨_, rfl, _, rfl, _, rfl, ?_⟩
      dsimp only [tNoPart]
      refine slG_drop (K := K) rfl (hW6.keep (s1.trans (s2.trans s3)).tkept) fun u4 G4 s4 vu4 => ?_
      refine catA (K := K) (vu3.keep s4.tkept) vu4 (szl _ (by rw [List.length_append, List.length_take, List.length_drop]; show _ + 1 + _ ≤ _; omega)) fun u5 G5 s5 vu5 => ?_
      have sx := s1.trans (s2.trans (s3.trans (s4.trans s5)))
      refine ⟨_, rfl, (by show 2 ≤ sizeLine; decide), fun o no => ?_⟩
      obtain ⟨po, so⟩ := PrAt.mk2 no vu5 (hR6.keep sx.tkept)
      have gz : Good (.str "zzzzzz") 0 100 := ⟨by decide +kernel, by decide, by decide +kernel⟩
      have wz := gz.wt
      have wd := wtA_take_drop ds i3
      refine pr po (Good.mono (Good.made (n := n) (S := S + 500) (fun y hy => ?_) ?_) (by omega) (by omega)) gR4 ((B15.same sx).same so) (K15.trans (same_kp (sx.trans so)))
      · rcases List.mem_append.mp hy with h | h
        · rcases List.mem_append.mp h with h | h
          · exact (gW.items y (take_mem h)).mono (by omega) (by omega)
          · simp at h
            subst h
            exact gz.mono (by omega) (by omega)
        · exact (gW.items y (drop_mem h)).mono (by omega) (by omega)
      · rw [wtA_app, wtA_app, wtA_cons]
        show _ + (wt (.str "zzzzzz") + 2 + 0) + _ + 10 ≤ _
        omega
    try dsimp only [tNext]
    -- more places
    have hsz : ("abcdefghi" : Str).cps.toList.length = 9 := by decide +kernel
    have hall : ("abcdefghi" : Str).cps.toList.all (fun c => decide (c < 0x110000)) = true := by decide +kernel
    have hlen : ("abcdefghi" : Str).length = 9 := by decide +kernel
    refine ⟨_, rfl, (by decide), (by decide), fun D hD => ?_⟩
    refine lc_range (n := 41) (fun t G => Same J3 G ∧ ∃ acc fs, G D = some (.lst acc) ∧ VdA G fs acc ∧ fs.length ≤ t ∧ ∀ d ∈ fs, Good d 0 100) ⟨same_upd (Same.refl _) hD, [], [], upd_same, VdA.nil, Nat.le_refl _, fun d h => by cases h⟩ ?_ ?_
    · rintro t G ht ⟨sG, acc, fs, eacc, vacc, fl, fg⟩
      obtain ⟨q1, q2, q3⟩ := zmul (k := 1 + (0 + (t : Int)) % 5) (by omega) (by omega)
      obtain ⟨ch, ech⟩ : ∃ ch, ("abcdefghi" : Str).cps.toList[t / 5]? = some ch := by
        have : t / 5 < ("abcdefghi" : Str).cps.toList.length := by rw [hsz]; omega
        exact ⟨_, List.getElem?_eq_getElem this⟩
      have hch := List.all_eq_true.mp hall ch (List.mem_of_getElem? ech)
      have h1 : ch < 0x110000 := by simpa using hch
      have h2 : PyData.strOk (⟨#[ch]⟩ : Str) = true := by
        show (#[ch]).all (· < 0x110000) = true
        simpa using h1
      have h3 : (⟨#[ch]⟩ : Str).length = 1 := rfl
      have e5 : (0 + (t : Int)) / 5 = ((t / 5 : Nat) : Int) := by omega
      have at5 : atI ("abcdefghi" : Str).cps.toList ((0 + (t : Int)) / 5) = some ch := by
        rw [e5]
        exact atI_nat ech
      refine ⟨rfl, _, rfl, _, _, rfl, rfl, (by show (0 : Int) < 5; decide), _, _, rfl, rfl, _, _, rfl, rfl, q1, _, rfl, _, _, rfl, rfl, ⟨by decide, by decide⟩, _, _, _, rfl, rfl, by rw [hlen]; decide, at5, _, _, rfl, rfl, by rw [h3, sizeLine_eq]; omega, acc, eacc, by rw [vacc.len, sizeLine_eq]; omega, same_upd sG hD, acc ++ [.str (Txt.mul "z" (1 + (0 + (t : Int)) % 5) ++ ⟨#[ch]⟩)], fs ++ [.str (Txt.mul "z" (1 + (0 + (t : Int)) % 5) ++ ⟨#[ch]⟩)], upd_same, ?_, ?_, ?_⟩
      · exact (vacc.app (VdA.one (Vd.mkStr _))).keep (tkept_lst eacc)
      · rw [List.length_append]
        show fs.length + 1 ≤ t + 1
        omega
      · intro d hd
        rcases List.mem_append.mp hd with h | h
        · exact fg d h
        · rw [List.mem_singleton.mp h]
          have z := Good.ofStr (strOk_app q2 h2)
          have z2 : 10 * (Txt.mul "z" (1 + (0 + (t : Int)) % 5) ++ (⟨#[ch]⟩ : Str)).length + 10 ≤ 100 := by
            rw [Str.length_append, h3]
            omega
          exact z.mono (Nat.le_refl _) z2
    · rintro G1 ⟨sG, acc, fs, eacc, vacc, fl, fg⟩
      try dsimp only [tNext]
      refine ⟨_, rfl, _, rfl, D, _, rfl, .inl ⟨SqL.of eacc, fun q nq => ?_⟩⟩
      have s1 := same_upd (o := .tup acc) (Same.refl G1) nq
      have vq : Vd (upd G1 q (.tup acc)) (.tuple fs) (.ref q) := Vd.ofTup upd_same (vacc.keep s1.tkept)
      generalize upd G1 q (.tup acc) = G2 at s1 vq ⊢
      have S2 := sG.trans s1
      refine catA (K := K) (hW6.keep S2.tkept) vq (szl _ (by omega)) fun u1 G3 s3 vu1 => ?_
      try dsimp only [tNoPart]
      refine ⟨_, rfl, ?_⟩
      refine slG_takeE (K := K) (k := 41) rfl vu1 fun u2 G4 s4 vu2 => ?_
      have S4 := S2.trans (s3.trans s4)
      refine ⟨_, rfl, (by show 2 ≤ sizeLine; decide), fun o no => ?_⟩
      obtain ⟨po, so⟩ := PrAt.mk2 no vu2 (hR6.keep S4.tkept)
      have w1 := wtA_sub (List.take_sublist 41 (ds ++ fs))
      have w2 : ∀ gs : List PyData, (∀ d ∈ gs, Good d 0 100) → wtA gs ≤ gs.length * 102 := by
        intro gs
        induction gs with
        | nil => intro _; simp [wtA]
        | cons g gs ih =>
          intro h
          have := ih fun d hd => h d (List.mem_cons_of_mem _ hd)
          have := (h g List.mem_cons_self).wt
          rw [wtA_cons, List.length_cons]
          omega
      have w3 := w2 fs fg
      rw [wtA_app] at w1
      refine pr po (Good.mono (Good.made (n := n) (S := S + 4300) (fun y hy => ?_) ?_) (by omega) (by omega)) gR4 ((B15.same S4).same so) (K15.trans (same_kp (S4.trans so)))
      · rcases List.mem_append.mp (take_mem hy) with h | h
        · exact (gW.items y h).mono (by omega) (by omega)
        · exact (fg y h).mono (by omega) (by omega)
      · omega
end
end Tg

namespace Tg
open PySem PySem.Spec PyProof.Rows L2 Ow
abbrev lUnl : Stmt := top 34
section
variable {X : Cx}
theorem op_inSK (K : PySem.W.Frag) (hK : X.K = K := by rfl) : OpR X (compareOp .In) (rIn K false) := by
  subst hK
  exact op_in_seq
theorem op_notInSK (K : PySem.W.Frag) (hK : X.K = K := by rfl) : OpR X (compareOp .NotIn) (rIn K true) := by
  subst hK
  exact op_notIn_seq
end
/-- what the groups of places are behind t edges -/
structure GI (ws : List Str) (es : List Edg) (t : Nat) (gs : List (List Str)) : Prop where
  all_ : ∀ x ∈ ws, ∃ g ∈ gs, x ∈ g
  mem : ∀ g ∈ gs, ∀ x ∈ g, x ∈ ws ∧ ∀ y ∈ ws, (y ∈ g ↔ lab ws es t (ixS ws y) = lab ws es t (ixS ws x))
  one : ∀ g ∈ gs, ∀ h ∈ gs, ∀ x, x ∈ g → x ∈ h → g = h
theorem GI.start {ws : List Str} {es : List Edg} (nw : ws.Nodup) : GI ws es 0 (ws.map fun x => [x]) := by
  refine ⟨fun x hx => ⟨[x], List.mem_map.mpr ⟨x, hx, rfl⟩, List.mem_singleton.mpr rfl⟩, fun g hg x hx => ?_, fun g hg h hh x h1 h2 => ?_⟩
  · obtain ⟨z, hz, rfl⟩ := List.mem_map.mp hg
    rw [List.mem_singleton.mp hx]
    refine ⟨hz, fun y hy => ?_⟩
    show y ∈ [z] ↔ ixS ws y = ixS ws z
    rw [List.mem_singleton]
    refine ⟨fun e => by rw [e], fun e => ?_⟩
    rw [(ixS_lt hy).2, (ixS_lt hz).2, e]
  · obtain ⟨a, _, rfl⟩ := List.mem_map.mp hg
    obtain ⟨b, _, rfl⟩ := List.mem_map.mp hh
    rw [← List.mem_singleton.mp h1, ← List.mem_singleton.mp h2]
theorem GI.step {ws : List Str} {es : List Edg} {t : Nat} {gs : List (List Str)} (G : GI ws es t gs) {f s : List Str} (hf : f ∈ gs) (hs : s ∈ gs) (m1 : (es.getD t ("", "")).1 ∈ ws) (m2 : (es.getD t ("", "")).2 ∈ ws)
    (h1 : (es.getD t ("", "")).1 ∈ f) (h2 : (es.getD t ("", "")).2 ∈ s) (nr : ringAt ws es t = false) : GI ws es (t + 1) ((gs.filter fun g => !decide (g = f) && !decide (g = s)) ++ [f ++ s]) := by
  have e : lab ws es (t + 1) = mergeP (lab ws es t) (ixS ws (es.getD t ("", "")).1) (ixS ws (es.getD t ("", "")).2) := rfl
  have r : ringAt ws es t = decide (lab ws es t (ixS ws (es.getD t ("", "")).1) = lab ws es t (ixS ws (es.getD t ("", "")).2)) := rfl
  rw [r] at nr
  have ne := of_decide_eq_false nr
  clear r nr
  generalize (es.getD t ("", "")).1 = a at m1 h1 e ne
  generalize (es.getD t ("", "")).2 = b at m2 h2 e ne
  have fm := (G.mem f hf a h1).2
  have sm := (G.mem s hs b h2).2
  have lf : ∀ y ∈ ws, y ∈ f → lab ws es (t + 1) (ixS ws y) = lab ws es t (ixS ws a) := fun y hy hm => by
    rw [e]
    unfold mergeP
    have := (fm y hy).mp hm
    rw [if_neg (by rw [this]; exact ne)]
    exact this
  have ls : ∀ y ∈ ws, y ∈ s → lab ws es (t + 1) (ixS ws y) = lab ws es t (ixS ws a) := fun y hy hm => by
    rw [e]
    unfold mergeP
    rw [if_pos ((sm y hy).mp hm)]
  have lo : ∀ y ∈ ws, y ∉ f → y ∉ s → lab ws es (t + 1) (ixS ws y) = lab ws es t (ixS ws y) ∧ lab ws es t (ixS ws y) ≠ lab ws es t (ixS ws a) := fun y hy n1 n2 => by
    rw [e]
    unfold mergeP
    rw [if_neg fun z => n2 ((sm y hy).mpr z)]
    exact ⟨rfl, fun z => n1 ((fm y hy).mpr z)⟩
  have kept : ∀ g ∈ gs, g ≠ f → g ≠ s → ∀ x ∈ g, x ∉ f ∧ x ∉ s := fun g hg n1 n2 x hx => ⟨fun z => n1 (G.one g hg f hf x hx z), fun z => n2 (G.one g hg s hs x hx z)⟩
  have flt : ∀ g, g ∈ (gs.filter fun g => !decide (g = f) && !decide (g = s)) ↔ g ∈ gs ∧ g ≠ f ∧ g ≠ s := fun g => by
    rw [List.mem_filter]
    simp
  refine ⟨fun x hx => ?_, fun g hg x hx => ?_, fun g hg h hh x q1 q2 => ?_⟩
  · obtain ⟨g, hg, hx2⟩ := G.all_ x hx
    by_cases c1 : g = f
    · exact ⟨f ++ s, List.mem_append_right _ (List.mem_singleton.mpr rfl), List.mem_append_left _ (c1 ▸ hx2)⟩
    by_cases c2 : g = s
    · exact ⟨f ++ s, List.mem_append_right _ (List.mem_singleton.mpr rfl), List.mem_append_right _ (c2 ▸ hx2)⟩
    exact ⟨g, List.mem_append_left _ ((flt g).mpr ⟨hg, c1, c2⟩), hx2⟩
  · rcases List.mem_append.mp hg with hg | hg
    · obtain ⟨hg, n1, n2⟩ := (flt g).mp hg
      obtain ⟨xw, im⟩ := G.mem g hg x hx
      obtain ⟨k1, k2⟩ := kept g hg n1 n2 x hx
      obtain ⟨l1, l2⟩ := lo x xw k1 k2
      refine ⟨xw, fun y hy => ?_⟩
      rw [im y hy, l1]
      by_cases c1 : y ∈ f
      · rw [lf y hy c1, (fm y hy).mp c1]
      by_cases c2 : y ∈ s
      · rw [ls y hy c2]
        refine ⟨fun z => ?_, fun z => absurd z.symm l2⟩
        exfalso
        have yg := (im y hy).mpr z
        exact (kept g hg n1 n2 y yg).2 c2
      rw [(lo y hy c1 c2).1]
    · have eg : g = f ++ s := List.mem_singleton.mp hg
      subst eg
      have xw : x ∈ ws := by
        rcases List.mem_append.mp hx with q | q
        · exact (G.mem f hf x q).1
        · exact (G.mem s hs x q).1
      have lx : lab ws es (t + 1) (ixS ws x) = lab ws es t (ixS ws a) := by
        rcases List.mem_append.mp hx with q | q
        · exact lf x xw q
        · exact ls x xw q
      refine ⟨xw, fun y hy => ?_⟩
      rw [lx]
      refine ⟨fun z => ?_, fun z => ?_⟩
      · rcases List.mem_append.mp z with q | q
        · exact lf y hy q
        · exact ls y hy q
      · by_cases c1 : y ∈ f
        · exact List.mem_append_left _ c1
        by_cases c2 : y ∈ s
        · exact List.mem_append_right _ c2
        obtain ⟨z1, z2⟩ := lo y hy c1 c2
        rw [z1] at z
        exact absurd z z2
  · have two : ∀ g, g ∈ gs → g ≠ f → g ≠ s → x ∈ g → x ∈ f ++ s → False := fun g hg n1 n2 hx hx2 => by
      obtain ⟨k1, k2⟩ := kept g hg n1 n2 x hx
      rcases List.mem_append.mp hx2 with q | q
      · exact k1 q
      · exact k2 q
    rcases List.mem_append.mp hg with hg | hg <;> rcases List.mem_append.mp hh with hh | hh
    · exact G.one g ((flt g).mp hg).1 h ((flt h).mp hh).1 x q1 q2
    · obtain ⟨z1, z2, z3⟩ := (flt g).mp hg
      rw [List.mem_singleton.mp hh] at q2
      exact (two g z1 z2 z3 q1 q2).elim
    · obtain ⟨z1, z2, z3⟩ := (flt h).mp hh
      rw [List.mem_singleton.mp hg] at q1
      exact (two h z1 z2 z3 q2 q1).elim
    · rw [List.mem_singleton.mp hg, List.mem_singleton.mp hh]
theorem nmS_good {x : Str} (h : isNmS x = true) : Good (.str x) 0 70 := by
  unfold isNmS at h
  simp only [Bool.and_eq_true, decide_eq_true_eq] at h
  obtain ⟨⟨h1, h2⟩, h3⟩ := h
  refine ⟨?_, Nat.le_refl _, by show 10 * x.length + 10 ≤ 70; omega⟩
  show x.cps.all (· < 0x110000) = true
  rw [Array.all_eq_true']
  intro c hc
  have := List.all_eq_true.mp h3 c (by simpa using hc)
  unfold okCp at this
  simp only [Bool.and_eq_true, decide_eq_true_eq] at this
  simp
  omega
theorem eqv_strs : ∀ g h : List Str, PyData.eqvAll (g.map PyData.str) (h.map PyData.str) = decide (g = h)
  | [], [] => rfl
  | [], _ :: _ => rfl
  | _ :: _, [] => rfl
  | a :: g, b :: h => by
    show (PyData.eqv (.str a) (.str b) && PyData.eqvAll (g.map PyData.str) (h.map PyData.str)) = _
    rw [eqv_strs g h]
    show ((a == b) && decide (g = h)) = _
    by_cases c1 : a = b <;> by_cases c2 : g = h <;> simp [c1, c2]
theorem strs_dp {K : PySem.W.Frag} {H : Hp} : ∀ g : List Str, DpAll K H (g.map V.str) (g.map PyData.str)
  | [] => .nil
  | x :: g => .cons (.str x) (strs_dp g)
/-- the first group with x -/
theorem pickL {K : PySem.W.Frag} {σ : L2.St} {G0 : Hp} {pg : Addr} {as : List Addr} {gs : List (List Str)} {x : Str} {tl : TE} {Q : VK} (e2 : σ[2]? = some (some (.ref pg))) (h1 : G0 pg = some (.lst (as.map V.ref))) (hl : as.length = gs.length)
    (hr : ∀ i, i < gs.length → G0 (as.getD i 0) = some (.lst ((gs.getD i []).map V.str))) (hb : gs.length ≤ 3000000) (hx : ∃ g ∈ gs, x ∈ g)
    (htl : ∀ v G R, Same G0 G → R (V.str x) G → tl ((wipe σ [11]).set 11 (some v)) G R) (h11 : ∀ v, ((wipe σ [11]).set 11 (some v))[11]? = some (some v)) (hw : ∀ v, wipe ((wipe σ [11]).set 11 (some v)) [11] = wipe σ [11])
    (q : ∀ i G, i < gs.length → x ∈ gs.getD i [] → Same G0 G → Q (.ref (as.getD i 0)) G) :
    tOp (rIxL K) (tLc (iList K (tVar 2)) (gName 11) (tTest (tOp (rIn K false) tl (tVar 11))) (tVar 11) [11]) (tC (.int 0)) σ G0 Q := by
  refine ⟨_, e2, pg, rfl, ⟨_, SqL.of h1⟩, fun D hD => ?_⟩
  refine lc_list (K := K) (a := pg) (xs := as.map V.ref) (fun t G => Same G0 G ∧ G D = some (.lst (((List.range t).filter fun i => (gs.getD i []).contains x).map fun i => V.ref (as.getD i 0)))) ⟨same_upd (Same.refl _) hD, upd_same⟩ (fun t G _ ⟨sG, _⟩ => SqL.of (sG _ _ h1)) ?_ ?_
  · rintro t v G hx2 ⟨sG, eD⟩
    have ht : t < as.length := by
      have := (List.getElem?_eq_some_iff.mp hx2).1
      rw [List.length_map] at this
      exact this
    rw [List.getElem?_map, List.getElem?_eq_getElem ht] at hx2
    obtain rfl : V.ref as[t] = v := Option.some.inj hx2
    have ga : as[t] = as.getD t 0 := by rw [List.getD_eq_getElem?_getD, List.getElem?_eq_getElem ht]; rfl
    rw [ga]
    refine ⟨hw _, htl _ G _ sG ⟨_, h11 _, as.getD t 0, _, rfl, .inl (SqL.of (sG _ _ (hr t (by omega)))), rfl, flat_strs _, _, rfl, ?_⟩⟩
    rw [inV_strs]
    have sc : ((List.range (t + 1)).filter fun i => (gs.getD i []).contains x) = ((List.range t).filter fun i => (gs.getD i []).contains x) ++ (if (gs.getD t []).contains x = true then [t] else []) := by
      rw [List.range_succ, List.filter_append]
      congr 1
      rw [List.filter_cons]
      rfl
    cases c : (gs.getD t []).contains x
    · rw [c, if_neg (by decide), List.append_nil] at sc
      refine iteF ⟨sG, ?_⟩
      rw [sc]
      exact eD
    · rw [c, if_pos rfl] at sc
      refine iteT ⟨_, h11 _, _, eD, ?_, same_upd sG hD, ?_⟩
      · have := List.length_filter_le (fun i => (gs.getD i []).contains x) (List.range t)
        rw [List.length_map, sizeLine_eq]
        rw [List.length_range] at this
        omega
      · rw [upd_same, sc, List.map_append]
        rfl
  · rintro G ⟨sG, eD⟩
    rw [List.length_map, hl] at eD
    obtain ⟨g, hg, hxg⟩ := hx
    obtain ⟨j, hj, ej⟩ := List.mem_iff_getElem.mp hg
    have gj : gs.getD j [] = g := by rw [List.getD_eq_getElem?_getD, List.getElem?_eq_getElem hj, ← ej]; rfl
    cases cl : (List.range gs.length).filter fun i => (gs.getD i []).contains x with
    | nil =>
      exfalso
      have : j ∈ (List.range gs.length).filter fun i => (gs.getD i []).contains x := List.mem_filter.mpr ⟨List.mem_range.mpr hj, by rw [gj]; exact List.contains_iff_mem.mpr hxg⟩
      rw [cl] at this
      cases this
    | cons i0 r =>
      have hi0 : i0 ∈ (List.range gs.length).filter fun i => (gs.getD i []).contains x := by rw [cl]; exact List.mem_cons_self
      obtain ⟨q1, q2⟩ := List.mem_filter.mp hi0
      rw [cl] at eD
      exact ⟨D, _, _, _, rfl, rfl, SqL.of eD, (atI_nat (j := 0) rfl), q i0 G (List.mem_range.mp q1) (List.contains_iff_mem.mp q2) sG⟩
end Tg

/-! plain data: what a value is worth, wherever it stands -/
namespace Pu
open PySem L2 Ow
structure Ext where
  r : Hp → V → Prop
  mono : ∀ F F' v, Same F F' → r F v → r F' v
/-- data: tuples, lists, dicts (keys and values), instances (class, names and values of the fields) -/
inductive D where
  | non | bl (b : Bool) | int (i : Int) | str (x : Str) | ty (n : String) | adr (a : Addr)
  | tup (l : List D) | lst (l : List D) | dct (ks : List Key) (l : List D) | dcT (ks : List (List Key)) (l : List D)
  | obj (C : Addr) (ks : List Str) (l : List D) | ext (e : Ext)
mutual
/-- v is worth d, by the frozen heap F -/
def Rp (F : Hp) : D → V → Prop
  | .non, v => v = .non
  | .bl b, v => v = .bl b
  | .int i, v => v = .int i
  | .str x, v => v = .str x
  | .ty n, v => v = .ty n
  | .adr a, v => v = .ref a
  | .tup l, v => ∃ a vs, v = .ref a ∧ F a = some (.tup vs) ∧ RpL F l vs
  | .lst l, v => ∃ a vs, v = .ref a ∧ F a = some (.lst vs) ∧ RpL F l vs
  | .dct ks l, v => ∃ a vs, v = .ref a ∧ F a = some (.dK (ks.zip vs)) ∧ ks.length = vs.length ∧ RpL F l vs
  | .dcT ks l, v => ∃ a vs, v = .ref a ∧ F a = some (.dT (ks.zip vs)) ∧ ks.length = vs.length ∧ RpL F l vs
  | .obj C ks l, v => ∃ a dx vs, v = .ref a ∧ F a = some (.ins C dx (ks.zip vs)) ∧ ks.length = vs.length ∧ RpL F l vs
  | .ext e, v => e.r F v
def RpL (F : Hp) : List D → List V → Prop
  | [], vs => vs = []
  | d :: l, vs => ∃ v r, vs = v :: r ∧ Rp F d v ∧ RpL F l r
end
mutual
theorem Rp.mono {F F' : Hp} (s : Same F F') : ∀ {d : D} {v : V}, Rp F d v → Rp F' d v
  | .non, _, h => h
  | .bl _, _, h => h
  | .int _, _, h => h
  | .str _, _, h => h
  | .ty _, _, h => h
  | .adr _, _, h => h
  | .tup l, v, h => by
    unfold Rp at h ⊢
    obtain ⟨a, vs, e, ea, hs⟩ := h
    exact ⟨a, vs, e, s _ _ ea, RpL.mono s hs⟩
  | .lst l, v, h => by
    unfold Rp at h ⊢
    obtain ⟨a, vs, e, ea, hs⟩ := h
    exact ⟨a, vs, e, s _ _ ea, RpL.mono s hs⟩
  | .dct ks l, v, h => by
    unfold Rp at h ⊢
    obtain ⟨a, vs, e, ea, k, hs⟩ := h
    exact ⟨a, vs, e, s _ _ ea, k, RpL.mono s hs⟩
  | .dcT ks l, v, h => by
    unfold Rp at h ⊢
    obtain ⟨a, vs, e, ea, k, hs⟩ := h
    exact ⟨a, vs, e, s _ _ ea, k, RpL.mono s hs⟩
  | .obj C ks l, v, h => by
    unfold Rp at h ⊢
    obtain ⟨a, dx, vs, e, ea, k, hs⟩ := h
    exact ⟨a, dx, vs, e, s _ _ ea, k, RpL.mono s hs⟩
  | .ext e, v, h => e.mono _ _ _ s h
theorem RpL.mono {F F' : Hp} (s : Same F F') : ∀ {l : List D} {vs : List V}, RpL F l vs → RpL F' l vs
  | [], _, h => h
  | d :: l, vs, h => by
    unfold RpL at h ⊢
    obtain ⟨v, r, e, h1, h2⟩ := h
    exact ⟨v, r, e, Rp.mono s h1, RpL.mono s h2⟩
end
section
variable {F : Hp} {d : D} {l m : List D} {v : V} {vs us : List V}
theorem RpL.nil : RpL F [] [] := by unfold RpL; rfl
theorem RpL.cons (h : Rp F d v) (hs : RpL F l vs) : RpL F (d :: l) (v :: vs) := by
  unfold RpL
  exact ⟨v, vs, rfl, h, hs⟩
theorem RpL.one (h : Rp F d v) : RpL F [d] [v] := RpL.cons h RpL.nil
theorem RpL.uncons (h : RpL F (d :: l) vs) : ∃ x r, vs = x :: r ∧ Rp F d x ∧ RpL F l r := by
  unfold RpL at h
  exact h
theorem RpL.isNil (h : RpL F [] vs) : vs = [] := by
  unfold RpL at h
  exact h
theorem RpL.len : ∀ {l : List D} {vs : List V}, RpL F l vs → vs.length = l.length
  | [], _, h => by rw [h.isNil]; rfl
  | d :: l, vs, h => by
    obtain ⟨x, r, e, h1, h2⟩ := h.uncons
    subst e
    rw [List.length_cons, List.length_cons, RpL.len h2]
theorem RpL.get : ∀ {l : List D} {vs : List V} {i : Nat} {d : D}, RpL F l vs → l[i]? = some d → ∃ x, vs[i]? = some x ∧ Rp F d x
  | [], _, _, _, _, hi => by simp at hi
  | e :: l, vs, i, d, h, hi => by
    obtain ⟨x, r, e, h1, h2⟩ := h.uncons
    subst e
    cases i with
    | zero =>
      obtain rfl : _ = d := by simpa using hi
      exact ⟨x, rfl, h1⟩
    | succ i => simpa using RpL.get (i := i) h2 (by simpa using hi)
theorem RpL.app : ∀ {l : List D} {vs : List V} {m : List D} {us : List V}, RpL F l vs → RpL F m us → RpL F (l ++ m) (vs ++ us)
  | [], _, _, _, h, h2 => by rw [h.isNil]; exact h2
  | d :: l, vs, m, us, h, h2 => by
    obtain ⟨x, r, e, h1, h3⟩ := h.uncons
    subst e
    exact RpL.cons h1 (RpL.app h3 h2)
theorem RpL.take : ∀ (n : Nat) {l : List D} {vs : List V}, RpL F l vs → RpL F (l.take n) (vs.take n)
  | 0, _, _, _ => by simpa using RpL.nil
  | n + 1, [], _, h => by rw [h.isNil]; simpa using RpL.nil
  | n + 1, d :: l, vs, h => by
    obtain ⟨x, r, e, h1, h3⟩ := h.uncons
    subst e
    exact RpL.cons h1 (RpL.take n h3)
theorem RpL.drop : ∀ (n : Nat) {l : List D} {vs : List V}, RpL F l vs → RpL F (l.drop n) (vs.drop n)
  | 0, _, _, h => h
  | n + 1, [], _, h => by rw [h.isNil]; simpa using RpL.nil
  | n + 1, d :: l, vs, h => by
    obtain ⟨x, r, e, h1, h3⟩ := h.uncons
    subst e
    exact RpL.drop n h3
theorem RpL.set : ∀ (n : Nat) {l : List D} {vs : List V} {d : D} {v : V}, RpL F l vs → Rp F d v → RpL F (l.set n d) (vs.set n v)
  | _, [], _, _, _, h, _ => by rw [h.isNil]; exact RpL.nil
  | 0, d :: l, vs, _, _, h, g => by
    obtain ⟨x, r, e, h1, h3⟩ := h.uncons
    subst e
    exact RpL.cons g h3
  | n + 1, d :: l, vs, _, _, h, g => by
    obtain ⟨x, r, e, h1, h3⟩ := h.uncons
    subst e
    exact RpL.cons h1 (RpL.set n h3 g)
theorem RpL.erase : ∀ (n : Nat) {l : List D} {vs : List V}, RpL F l vs → RpL F (l.eraseIdx n) (vs.eraseIdx n)
  | _, [], _, h => by rw [h.isNil]; exact RpL.nil
  | 0, d :: l, vs, h => by
    obtain ⟨x, r, e, h1, h3⟩ := h.uncons
    subst e
    exact h3
  | n + 1, d :: l, vs, h => by
    obtain ⟨x, r, e, h1, h3⟩ := h.uncons
    subst e
    exact RpL.cons h1 (RpL.erase n h3)
theorem RpL.rev : ∀ {l : List D} {vs : List V}, RpL F l vs → RpL F l.reverse vs.reverse
  | [], _, h => by rw [h.isNil]; exact RpL.nil
  | d :: l, vs, h => by
    obtain ⟨x, r, e, h1, h3⟩ := h.uncons
    subst e
    rw [List.reverse_cons, List.reverse_cons]
    exact RpL.app (RpL.rev h3) (RpL.one h1)
theorem RpL.dropLast (h : RpL F l vs) : RpL F l.dropLast vs.dropLast := by
  rw [List.dropLast_eq_take, List.dropLast_eq_take, h.len]
  exact RpL.take _ h
theorem RpL.none_of {i : Nat} (h : RpL F l vs) (e : l[i]? = none) : vs[i]? = none := by
  rw [List.getElem?_eq_none_iff] at e ⊢
  rw [h.len]
  exact e
theorem RpL.inv {i : Nat} {x : V} (h : RpL F l vs) (e : vs[i]? = some x) : ∃ d, l[i]? = some d ∧ Rp F d x := by
  have hi : i < l.length := by rw [← h.len]; exact (List.getElem?_eq_some_iff.mp e).1
  obtain ⟨y, e2, r⟩ := h.get (List.getElem?_eq_getElem hi)
  rw [e] at e2
  cases e2
  exact ⟨_, List.getElem?_eq_getElem hi, r⟩
theorem RpL.ints {is : List Int} : RpL F (is.map D.int) (is.map V.int) := by
  induction is with
  | nil => exact RpL.nil
  | cons i is ih => exact RpL.cons (by unfold Rp; rfl) ih
theorem RpL.intsV : ∀ {is : List Int} {vs : List V}, RpL F (is.map D.int) vs → vs = is.map V.int
  | [], _, h => h.isNil
  | i :: is, vs, h => by
    obtain ⟨x, r, e, h1, h2⟩ := h.uncons
    subst e
    rw [List.map_cons, RpL.intsV h2]
    unfold Rp at h1
    rw [h1]
theorem RpL.strs {is : List Str} : RpL F (is.map D.str) (is.map V.str) := by
  induction is with
  | nil => exact RpL.nil
  | cons i is ih => exact RpL.cons (by unfold Rp; rfl) ih
theorem RpL.strsV : ∀ {is : List Str} {vs : List V}, RpL F (is.map D.str) vs → vs = is.map V.str
  | [], _, h => h.isNil
  | i :: is, vs, h => by
    obtain ⟨x, r, e, h1, h2⟩ := h.uncons
    subst e
    rw [List.map_cons, RpL.strsV h2]
    unfold Rp at h1
    rw [h1]
theorem RpL.bls : ∀ {is : List Bool} {vs : List V}, RpL F (is.map D.bl) vs → vs = is.map V.bl
  | [], _, h => h.isNil
  | i :: is, vs, h => by
    obtain ⟨x, r, e, h1, h2⟩ := h.uncons
    subst e
    rw [List.map_cons, RpL.bls h2]
    unfold Rp at h1
    rw [h1]
end
/-! ### the frozen heap within the heap -/
def isDc : HO → Prop
  | .dK _ => True
  | .dT _ => True
  | _ => False
/-- all that is frozen stands (a dict may be locked) -/
def Sub (F H : Hp) : Prop := ∀ a o, F a = some o → H a = some o ∨ (isDc o ∧ ∃ ob, H a = some (.frz ob o))
theorem Sub.at_ {F H : Hp} {a : Addr} {o : HO} (s : Sub F H) (e : F a = some o) (n : ¬ isDc o) : H a = some o := (s a o e).elim id fun z => absurd z.1 n
theorem Sub.rd {F H : Hp} {a : Addr} {o : HO} (s : Sub F H) (e : F a = some o) : Rd H a o := (s a o e).elim .inl fun z => .inr z.2
theorem Sub.tup {F H : Hp} {a : Addr} {vs : List V} (s : Sub F H) (e : F a = some (.tup vs)) : H a = some (.tup vs) := s.at_ e fun z => z
theorem Sub.lst {F H : Hp} {a : Addr} {vs : List V} (s : Sub F H) (e : F a = some (.lst vs)) : H a = some (.lst vs) := s.at_ e fun z => z
theorem Sub.ins {F H : Hp} {a C dx : Addr} {fs : List (Str × V)} (s : Sub F H) (e : F a = some (.ins C dx fs)) : H a = some (.ins C dx fs) := s.at_ e fun z => z
theorem Sub.some {F H : Hp} {a : Addr} {o : HO} (s : Sub F H) (e : F a = some o) : H a ≠ none := fun z => by
  rcases s a o e with h | ⟨_, ob, h⟩ <;> rw [z] at h <;> cases h
theorem Sub.none {F H : Hp} {a : Addr} (s : Sub F H) (e : H a = Option.none) : F a = Option.none := by
  cases q : F a with
  | none => rfl
  | some o => exact absurd e (s.some q)
/-- the top of a container, its items frozen: as it is read -/
def Vw (F H : Hp) : D → V → Prop
  | .lst l, v => ∃ a vs, v = .ref a ∧ H a = some (.lst vs) ∧ RpL F l vs
  | .dct ks l, v => ∃ a vs, v = .ref a ∧ Rd H a (.dK (ks.zip vs)) ∧ ks.length = vs.length ∧ RpL F l vs
  | .dcT ks l, v => ∃ a vs, v = .ref a ∧ Rd H a (.dT (ks.zip vs)) ∧ ks.length = vs.length ∧ RpL F l vs
  | .obj C ks l, v => ∃ a dx vs, v = .ref a ∧ H a = some (.ins C dx (ks.zip vs)) ∧ ks.length = vs.length ∧ RpL F l vs
  | d, v => Rp F d v
/-- an own container at a, its items frozen -/
def Oc (F H : Hp) : D → Addr → Prop
  | .lst l, a => ∃ vs, H a = some (.lst vs) ∧ RpL F l vs
  | .dct ks l, a => ∃ vs, H a = some (.dK (ks.zip vs)) ∧ ks.length = vs.length ∧ RpL F l vs
  | .dcT ks l, a => ∃ vs, H a = some (.dT (ks.zip vs)) ∧ ks.length = vs.length ∧ RpL F l vs
  | .obj C ks l, a => ∃ dx vs, H a = some (.ins C dx (ks.zip vs)) ∧ ks.length = vs.length ∧ RpL F l vs
  | _, _ => False
theorem Rp.vw {F H : Hp} {d : D} {v : V} (h : Rp F d v) (s : Sub F H) : Vw F H d v := by
  cases d with
  | lst l =>
    unfold Rp at h
    obtain ⟨a, vs, e, ea, hs⟩ := h
    exact ⟨a, vs, e, s.lst ea, hs⟩
  | dct ks l =>
    unfold Rp at h
    obtain ⟨a, vs, e, ea, k, hs⟩ := h
    exact ⟨a, vs, e, s.rd ea, k, hs⟩
  | dcT ks l =>
    unfold Rp at h
    obtain ⟨a, vs, e, ea, k, hs⟩ := h
    exact ⟨a, vs, e, s.rd ea, k, hs⟩
  | obj C ks l =>
    unfold Rp at h
    obtain ⟨a, dx, vs, e, ea, k, hs⟩ := h
    exact ⟨a, dx, vs, e, s.ins ea, k, hs⟩
  | _ => exact h
theorem vw_tup {F H : Hp} {l : List D} {v : V} (h : Vw F H (.tup l) v) (s : Sub F H) : ∃ a vs, v = .ref a ∧ F a = some (.tup vs) ∧ H a = some (.tup vs) ∧ RpL F l vs := by
  have h : Rp F (.tup l) v := h
  unfold Rp at h
  obtain ⟨a, vs, e, ea, hs⟩ := h
  exact ⟨a, vs, e, ea, s.tup ea, hs⟩
theorem Oc.vw {F H : Hp} {d : D} {a : Addr} (h : Oc F H d a) : Vw F H d (.ref a) := by
  cases d with
  | lst l =>
    obtain ⟨vs, e, hs⟩ := h
    exact ⟨a, vs, rfl, e, hs⟩
  | dct ks l =>
    obtain ⟨vs, e, k, hs⟩ := h
    exact ⟨a, vs, rfl, .inl e, k, hs⟩
  | dcT ks l =>
    obtain ⟨vs, e, k, hs⟩ := h
    exact ⟨a, vs, rfl, .inl e, k, hs⟩
  | obj C ks l =>
    obtain ⟨dx, vs, e, k, hs⟩ := h
    exact ⟨a, dx, vs, rfl, e, k, hs⟩
  | _ => exact h.elim
theorem Oc.mono {F F' H H' : Hp} {d : D} {a : Addr} (h : Oc F H d a) (s : Same F F') (e : ∀ o, H a = some o → H' a = some o) : Oc F' H' d a := by
  cases d with
  | lst l =>
    obtain ⟨vs, q, hs⟩ := h
    exact ⟨vs, e _ q, hs.mono s⟩
  | dct ks l =>
    obtain ⟨vs, q, k, hs⟩ := h
    exact ⟨vs, e _ q, k, hs.mono s⟩
  | dcT ks l =>
    obtain ⟨vs, q, k, hs⟩ := h
    exact ⟨vs, e _ q, k, hs.mono s⟩
  | obj C ks l =>
    obtain ⟨dx, vs, q, k, hs⟩ := h
    exact ⟨dx, vs, e _ q, k, hs.mono s⟩
  | _ => exact h.elim
theorem Oc.there {F H : Hp} {d : D} {a : Addr} (h : Oc F H d a) : ∃ o, H a = some o ∧ ∀ F', Same F F' → F' a = some o → Rp F' d (.ref a) := by
  cases d with
  | lst l =>
    obtain ⟨vs, q, hs⟩ := h
    exact ⟨_, q, fun F' s e => by unfold Rp; exact ⟨a, vs, rfl, e, hs.mono s⟩⟩
  | dct ks l =>
    obtain ⟨vs, q, k, hs⟩ := h
    exact ⟨_, q, fun F' s e => by unfold Rp; exact ⟨a, vs, rfl, e, k, hs.mono s⟩⟩
  | dcT ks l =>
    obtain ⟨vs, q, k, hs⟩ := h
    exact ⟨_, q, fun F' s e => by unfold Rp; exact ⟨a, vs, rfl, e, k, hs.mono s⟩⟩
  | obj C ks l =>
    obtain ⟨dx, vs, q, k, hs⟩ := h
    exact ⟨_, q, fun F' s e => by unfold Rp; exact ⟨a, dx, vs, rfl, e, k, hs.mono s⟩⟩
  | _ => exact h.elim
theorem same_free {H : Hp} {p : Addr} {o : HO} (n : H p = none) : Same H (upd H p o) := Tg.same_upd (Same.refl H) n
end Pu

/-! states of plain data, and the lifting of readings over them -/
namespace Pu
open PySem L2 Ow
/-- what is changed in place by several: its cells, what is true of them; α: what is told of it -/
structure Reg (α : Type) where
  S : α → Addr → Prop
  R : α → Hp → Hp → Prop
  keep : ∀ {m F H F' H'}, R m F H → Same F F' → (∀ a o, S m a → H a = some o → H' a = some o) → R m F' H'
  there : ∀ {m F H}, R m F H → ∀ a, S m a → H a ≠ none
/-- a slot: frozen data, or an own container -/
inductive SV where
  | fz (d : D) | ow (d : D)
/-- a value on the way: also what a slot with an own container holds -/
inductive Tv where
  | fz (d : D) | ow (d : D) | br (i : Nat)
def SV.tv : SV → Tv
  | .fz d => .fz d
  | .ow d => .ow d
structure PSt (α : Type) where
  sl : List (Option SV)
  g : α
/-- a def's entry -/
structure En (α : Type) where
  R : Reg α
  S0 : Addr → Prop
  F0 : Hp
  H0 : Hp
  /-- nothing is locked -/
  nl : Bool := true
variable {α : Type}
/-- nothing at the entry that is to stay -/
def En.Fr0 (E : En α) (a : Addr) : Prop := E.H0 a = none ∨ E.S0 a
def PSt.put (ρ : PSt α) (i : Nat) (s : SV) : PSt α := ⟨ρ.sl.set i (some s), ρ.g⟩
def PSt.sg (ρ : PSt α) (m : α) : PSt α := ⟨ρ.sl, m⟩
abbrev Hd := List (Addr × HO)
/-- the heap's part of a state; hk: cells that are held (a locked dict, a new container on the way) -/
structure Ok0 (E : En α) (hk : Hd) (m : α) (F H : Hp) : Prop where
  sub : Sub F H
  reg : E.R.R m F H
  rF : ∀ a, E.R.S m a → F a = none
  same : Same E.F0 F
  new : ∀ a o, F a = some o → E.F0 a = some o ∨ E.Fr0 a
  kp : ∀ a o, ¬ E.S0 a → E.H0 a = some o → H a = some o ∨ ∃ ob, (a, HO.frz ob o) ∈ hk
  sE : ∀ a, E.R.S m a → E.S0 a ∨ E.H0 a = none
  hd : ∀ p ∈ hk, H p.1 = some p.2 ∧ ¬ E.R.S m p.1 ∧ ((∃ ob o, p.2 = .frz ob o ∧ F p.1 = some o) ∨ (F p.1 = none ∧ E.Fr0 p.1))
  nl : E.nl = true → ∀ p ∈ hk, ∀ ob o, p.2 ≠ .frz ob o
def SlOk (E : En α) (m : α) (F H : Hp) (oa : Nat → Option Addr) (i : Nat) : SV → V → Prop
  | .fz d, v => Rp F d v
  | .ow d, v => ∃ a, oa i = some a ∧ v = .ref a ∧ Oc F H d a
structure Ok (E : En α) (hk : Hd) (ρ : PSt α) (F H : Hp) (oa : Nat → Option Addr) (σ : St) : Prop where
  o : Ok0 E hk ρ.g F H
  len : ρ.sl.length = σ.length
  sl : ∀ i s, ρ.sl[i]? = some (some s) → ∃ v, σ[i]? = some (some v) ∧ SlOk E ρ.g F H oa i s v
  own : ∀ i a, oa i = some a → H a ≠ none ∧ F a = none ∧ ¬ E.R.S ρ.g a ∧ E.Fr0 a ∧ (∀ p ∈ hk, p.1 ≠ a) ∧ i < σ.length
  inj : ∀ i j a, oa i = some a → oa j = some a → i = j
/-- the heap grows, all stands -/
structure Grw (F H F' H' : Hp) : Prop where
  f : Same F F'
  h : Same H H'
  n : ∀ a o, F' a = some o → F a = some o ∨ H a = none
  sub : Sub F' H'
/-- behind a call: all but the region stands -/
structure Xt (R : Reg α) (F H : Hp) (m : α) (F' H' : Hp) (m' : α) : Prop where
  sub : Sub F' H'
  reg : R.R m' F' H'
  rF : ∀ a, R.S m' a → F' a = none
  f : Same F F'
  n : ∀ a o, F' a = some o → F a = some o ∨ H a = none ∨ R.S m a
  kp : ∀ a o, ¬ R.S m a → H a = some o → H' a = some o
  sE : ∀ a, R.S m' a → R.S m a ∨ H a = none
theorem Grw.refl {F H : Hp} (s : Sub F H) : Grw F H F H := ⟨Same.refl _, Same.refl _, fun _ _ h => .inl h, s⟩
theorem Grw.trans {F H F1 H1 F2 H2 : Hp} (x : Grw F H F1 H1) (y : Grw F1 H1 F2 H2) : Grw F H F2 H2 :=
  ⟨x.f.trans y.f, x.h.trans y.h, fun a o e => (y.n a o e).elim (x.n a o) fun z => .inr (x.h.free z), y.sub⟩
/-- a new cell that is not frozen -/
theorem Grw.cell {F H : Hp} {p : Addr} {o : HO} (s : Sub F H) (n : H p = none) : Grw F H F (upd H p o) :=
  ⟨Same.refl _, same_free n, fun _ _ h => .inl h, fun a u e => (s a u e).elim (fun h => .inl (same_free n _ _ h)) fun ⟨d, ob, h⟩ => .inr ⟨d, ob, same_free n _ _ h⟩⟩
/-- a new cell that is frozen at once -/
theorem Grw.froz {F H : Hp} {p : Addr} {o : HO} (s : Sub F H) (n : H p = none) : Grw F H (upd F p o) (upd H p o) := by
  have nF := s.none n
  refine ⟨same_free nF, same_free n, fun a u e => ?_, fun a u e => ?_⟩
  · by_cases h : a = p
    · subst h
      exact .inr n
    · rw [upd_ne h] at e
      exact .inl e
  · by_cases h : a = p
    · subst h
      rw [upd_same] at e
      cases e
      exact .inl upd_same
    · rw [upd_ne h] at e
      exact (s a u e).elim (fun q => .inl (by rw [upd_ne h]; exact q)) fun ⟨d, ob, q⟩ => .inr ⟨d, ob, by rw [upd_ne h]; exact q⟩
theorem Grw.xt {R : Reg α} {F H F' H' : Hp} {m : α} (x : Grw F H F' H') (r : R.R m F H) (rF : ∀ a, R.S m a → F a = none) : Xt R F H m F' H' m :=
  ⟨x.sub, R.keep r x.f fun a o _ e => x.h a o e, fun a s => by
    cases q : F' a with
    | none => rfl
    | some o => exact absurd (x.n a o q) (fun z => z.elim (fun z => by rw [rF a s] at z; cases z) fun z => R.there r a s z), x.f, fun a o e => (x.n a o e).imp id .inl, fun a o _ e => x.h a o e, fun a s => .inl s⟩
section
variable {E : En α} {hk : Hd} {m m' : α} {ρ : PSt α} {F H F' H' : Hp} {oa : Nat → Option Addr} {σ : St}
theorem Ok0.h0 (o : Ok0 E hk m F H) {a : Addr} (h : H a = none) : E.Fr0 a := by
  by_cases hs : E.S0 a
  · exact .inr hs
  · left
    cases q : E.H0 a with
    | none => rfl
    | some u =>
      rcases o.kp a u hs q with z | ⟨ob, z⟩
      · rw [h] at z; cases z
      · rw [(o.hd _ z).1] at h; cases h
theorem Ok0.xt (o : Ok0 E hk m F H) (x : Xt E.R F H m F' H' m') : Ok0 E hk m' F' H' := by
  refine ⟨x.sub, x.reg, x.rF, o.same.trans x.f, fun a u e => ?_, fun a u ns e => ?_, fun a s => ?_, fun p hp => ?_, o.nl⟩
  · rcases x.n a u e with h | h | h
    · exact o.new a u h
    · exact .inr (o.h0 h)
    · exact .inr (o.sE a h).symm
  · rcases o.kp a u ns e with z | z
    · by_cases hr : E.R.S m a
      · rcases o.sE a hr with q | q
        · exact absurd q ns
        · rw [e] at q; cases q
      · exact .inl (x.kp a u hr z)
    · exact .inr z
  · rcases x.sE a s with z | z
    · exact o.sE a z
    · exact (o.h0 z).symm
  · obtain ⟨h1, h2, h3⟩ := o.hd p hp
    have k := x.kp _ _ h2 h1
    refine ⟨k, fun s => ?_, ?_⟩
    · rcases x.sE _ s with z | z
      · exact h2 z
      · rw [h1] at z; cases z
    · rcases h3 with ⟨ob, u, e1, e2⟩ | ⟨e1, e2⟩
      · exact .inl ⟨ob, u, e1, x.f _ _ e2⟩
      · refine .inr ⟨?_, e2⟩
        cases q : F' p.1 with
        | none => rfl
        | some u =>
          rcases x.n _ _ q with z | z | z
          · rw [e1] at z; cases z
          · rw [h1] at z; cases z
          · exact absurd z h2
theorem Ok.sub (o : Ok E hk ρ F H oa σ) : Sub F H := o.o.sub
/-- behind a call -/
theorem Ok.xt (o : Ok E hk ρ F H oa σ) (x : Xt E.R F H ρ.g F' H' m') : Ok E hk (ρ.sg m') F' H' oa σ := by
  refine ⟨o.o.xt x, o.len, fun i s e => ?_, fun i a e => ?_, o.inj⟩
  · obtain ⟨v, ev, hv⟩ := o.sl i s e
    refine ⟨v, ev, ?_⟩
    cases s with
    | fz d => exact Rp.mono x.f hv
    | ow d =>
      obtain ⟨a, ea, e2, w⟩ := hv
      obtain ⟨h1, h2, h3, h4, h5⟩ := o.own i a ea
      exact ⟨a, ea, e2, w.mono x.f fun u q => x.kp a u h3 q⟩
  · obtain ⟨h1, h2, h3, h4, h5⟩ := o.own i a e
    refine ⟨?_, ?_, fun s => ?_, h4, h5⟩
    · cases q : H a with
      | none => exact absurd q h1
      | some u => rw [x.kp a u h3 q]; exact fun z => by cases z
    · cases q : F' a with
      | none => rfl
      | some u =>
        rcases x.n _ _ q with z | z | z
        · rw [h2] at z; cases z
        · exact absurd z h1
        · exact absurd z h3
    · rcases x.sE _ s with z | z
      · exact h3 z
      · exact h1 z
theorem sg_self (ρ : PSt α) : ρ.sg ρ.g = ρ := rfl
/-- the heap has grown -/
theorem Ok.grw (o : Ok E hk ρ F H oa σ) (x : Grw F H F' H') : Ok E hk ρ F' H' oa σ := o.xt (x.xt o.o.reg o.o.rF)
theorem Ok.freeS (o : Ok E hk ρ F H oa σ) {p : Addr} (n : H p = none) : ¬ E.R.S ρ.g p := fun s => E.R.there o.o.reg p s n
theorem Ok.freeO (o : Ok E hk ρ F H oa σ) {p : Addr} (n : H p = none) (i : Nat) : oa i ≠ some p := fun e => (o.own i p e).1 n
theorem Ok.freeK (o : Ok E hk ρ F H oa σ) {p : Addr} (n : H p = none) : ∀ q ∈ hk, q.1 ≠ p := fun q hq e => by
  have := (o.o.hd q hq).1
  rw [e, n] at this
  cases this
end
/-- what a temporary is -/
def TvOk (E : En α) (hk : Hd) (ρ : PSt α) (t : Tv) (v : V) (F H : Hp) (oa : Nat → Option Addr) (σ : St) : Prop := match t with
  | .fz d => Rp F d v
  | .ow d => ∃ a, v = .ref a ∧ Oc F H d a ∧ F a = none ∧ ¬ E.R.S ρ.g a ∧ E.Fr0 a ∧ (∀ i, oa i ≠ some a) ∧ ∀ p ∈ hk, p.1 ≠ a
  | .br i => σ[i]? = some (some v)
/-- what an operation hands back -/
def RsOk (F H F' H' : Hp) (t : Tv) (v : V) : Prop := match t with
  | .fz d => Rp F' d v
  | .ow d => ∃ a, v = .ref a ∧ Oc F' H' d a ∧ F' a = none ∧ H a = none
  | .br _ => False
section
variable {E : En α} {hk : Hd} {m m' : α} {ρ : PSt α} {F H F' H' : Hp} {oa : Nat → Option Addr} {σ : St}
theorem Ok.rs (o : Ok E hk ρ F H oa σ) (x : Grw F H F' H') {t : Tv} {v : V} (r : RsOk F H F' H' t v) : TvOk E hk ρ t v F' H' oa σ := by
  cases t with
  | fz d => exact r
  | ow d =>
    obtain ⟨a, e, w, f, n⟩ := r
    exact ⟨a, e, w, f, o.freeS n, o.o.h0 n, o.freeO n, o.freeK n⟩
  | br i => exact r.elim
/-- a cell that belongs to none but the temporary is frozen -/
theorem Ok.fz1 (o : Ok E hk ρ F H oa σ) {a : Addr} {u : HO} (e : H a = some u) (f : F a = none) (ns : ¬ E.R.S ρ.g a) (fr : E.Fr0 a) (no : ∀ i, oa i ≠ some a) (nk : ∀ p ∈ hk, p.1 ≠ a) :
    Same F (upd F a u) ∧ Ok E hk ρ (upd F a u) H oa σ := by
  have s : Same F (upd F a u) := same_free f
  have ne : ∀ {b : Addr}, b ≠ a → (upd F a u) b = F b := fun h => upd_ne h
  refine ⟨s, ⟨⟨fun b w q => ?_, E.R.keep o.o.reg s fun _ _ _ z => z, fun b hb => ?_, o.o.same.trans s, fun b w q => ?_, o.o.kp, o.o.sE, fun p hp => ?_, o.o.nl⟩, o.len, fun i x q => ?_, fun i b q => ?_, o.inj⟩⟩
  · by_cases h : b = a
    · subst h
      rw [upd_same] at q
      cases q
      exact .inl e
    · rw [ne h] at q
      exact o.sub b w q
  · rw [ne fun z => ns (z ▸ hb)]
    exact o.o.rF b hb
  · by_cases h : b = a
    · subst h
      exact .inr fr
    · rw [ne h] at q
      exact o.o.new b w q
  · obtain ⟨h1, h2, h3⟩ := o.o.hd p hp
    refine ⟨h1, h2, ?_⟩
    rw [ne (nk p hp)]
    exact h3
  · obtain ⟨v, ev, hv⟩ := o.sl i x q
    refine ⟨v, ev, ?_⟩
    cases x with
    | fz d => exact Rp.mono s hv
    | ow d =>
      obtain ⟨b, eb, e2, w⟩ := hv
      exact ⟨b, eb, e2, w.mono s fun _ z => z⟩
  · obtain ⟨h1, h2, h3⟩ := o.own i b q
    refine ⟨h1, ?_, h3⟩
    rw [ne fun z => no i (z ▸ q)]
    exact h2
theorem Ok.fzO (o : Ok E hk ρ F H oa σ) {d : D} {v : V} (t : TvOk E hk ρ (.ow d) v F H oa σ) : ∃ F', Same F F' ∧ Ok E hk ρ F' H oa σ ∧ Rp F' d v := by
  obtain ⟨a, e, w, f, ns, fr, no, nk⟩ := t
  subst e
  obtain ⟨u, eu, q⟩ := w.there
  obtain ⟨s, o'⟩ := o.fz1 eu f ns fr no nk
  exact ⟨_, s, o', q _ s upd_same⟩
def off (oa : Nat → Option Addr) (i : Nat) : Nat → Option Addr := fun j => if j = i then none else oa j
theorem off_self (oa : Nat → Option Addr) (i : Nat) : off oa i i = none := if_pos rfl
theorem off_some {oa : Nat → Option Addr} {i j : Nat} {a : Addr} (h : off oa i j = some a) : j ≠ i ∧ oa j = some a := by
  unfold off at h
  split at h
  · cases h
  · rename_i n
    exact ⟨n, h⟩
/-- a slot's word is forgotten -/
theorem Ok.clr (o : Ok E hk ρ F H oa σ) (i : Nat) : Ok E hk ⟨ρ.sl.set i none, ρ.g⟩ F H (off oa i) σ := by
  refine ⟨o.o, by rw [List.length_set]; exact o.len, fun j s e => ?_, fun j a e => o.own j a (off_some e).2, fun j k a e1 e2 => o.inj j k a (off_some e1).2 (off_some e2).2⟩
  by_cases h : i = j
  · subst h
    by_cases hl : i < ρ.sl.length
    · rw [List.getElem?_set_self hl] at e; cases e
    · rw [List.getElem?_eq_none (by simpa using hl)] at e; cases e
  · rw [List.getElem?_set_ne h] at e
    obtain ⟨v, ev, hv⟩ := o.sl j s e
    refine ⟨v, ev, ?_⟩
    cases s with
    | fz d => exact hv
    | ow d =>
      obtain ⟨a, ea, r⟩ := hv
      exact ⟨a, by unfold off; rw [if_neg fun z => h z.symm]; exact ea, r⟩
theorem set_put (ρ : PSt α) (i : Nat) (s : SV) : (⟨(ρ.sl.set i none).set i (some s), ρ.g⟩ : PSt α) = ρ.put i s := by
  unfold PSt.put
  rw [List.set_set]
/-- frozen data is stored -/
theorem Ok.setF (o : Ok E hk ρ F H oa σ) {i : Nat} {d : D} {v : V} (hi : i < σ.length) (r : Rp F d v) : Ok E hk (ρ.put i (.fz d)) F H (off oa i) (σ.set i (some v)) := by
  have c := o.clr i
  refine ⟨o.o, by simp [PSt.put, o.len], fun j s e => ?_, fun j a e => ?_, c.inj⟩
  · unfold PSt.put at e
    by_cases h : i = j
    · subst h
      rw [List.getElem?_set_self (by rw [o.len]; exact hi)] at e
      cases e
      exact ⟨v, by rw [List.getElem?_set_self hi], r⟩
    · rw [List.getElem?_set_ne h] at e
      obtain ⟨u, eu, hu⟩ := c.sl j s (by rw [List.getElem?_set_ne h]; exact e)
      exact ⟨u, by rw [List.getElem?_set_ne h]; exact eu, hu⟩
  · obtain ⟨h1, h2, h3, h4, h5, h6⟩ := c.own j a e
    exact ⟨h1, h2, h3, h4, h5, by rw [List.length_set]; exact h6⟩
/-- a new container is stored -/
theorem Ok.setO (o : Ok E hk ρ F H oa σ) {i : Nat} {d : D} {v : V} (hi : i < σ.length) (t : TvOk E hk ρ (.ow d) v F H oa σ) : ∃ oa', Ok E hk (ρ.put i (.ow d)) F H oa' (σ.set i (some v)) := by
  obtain ⟨a, e, w, f, ns, fr, no, nk⟩ := t
  subst e
  have c := o.clr i
  have na : ∀ {j}, off oa i j ≠ some a := fun {j} z => no j (off_some z).2
  refine ⟨fun j => if j = i then some a else off oa i j, o.o, by simp [PSt.put, o.len], fun j s e => ?_, fun j b e => ?_, fun j k b e1 e2 => ?_⟩
  · unfold PSt.put at e
    by_cases h : i = j
    · subst h
      rw [List.getElem?_set_self (by rw [o.len]; exact hi)] at e
      cases e
      exact ⟨_, by rw [List.getElem?_set_self hi], a, if_pos rfl, rfl, w⟩
    · rw [List.getElem?_set_ne h] at e
      obtain ⟨u, eu, hu⟩ := c.sl j s (by rw [List.getElem?_set_ne h]; exact e)
      refine ⟨u, by rw [List.getElem?_set_ne h]; exact eu, ?_⟩
      cases s with
      | fz d => exact hu
      | ow d =>
        obtain ⟨b, eb, r⟩ := hu
        exact ⟨b, by show (if j = i then some a else off oa i j) = some b; rw [if_neg fun z => h z.symm]; exact eb, r⟩
  · have e : (if j = i then some a else off oa i j) = some b := e
    split at e
    · rename_i q
      cases e
      subst q
      obtain ⟨u, eu, _⟩ := w.there
      exact ⟨by rw [eu]; exact (fun z => by cases z), f, ns, fr, nk, by rw [List.length_set]; exact hi⟩
    · obtain ⟨h1, h2, h3, h4, h5, h6⟩ := c.own j b e
      exact ⟨h1, h2, h3, h4, h5, by rw [List.length_set]; exact h6⟩
  · have e1 : (if j = i then some a else off oa i j) = some b := e1
    have e2 : (if k = i then some a else off oa i k) = some b := e2
    split at e1 <;> split at e2
    · rename_i q1 q2
      rw [q1, q2]
    · cases e1
      exact absurd e2 na
    · cases e2
      exact absurd e1 na
    · exact c.inj j k b e1 e2
theorem set_same {σ : St} {i : Nat} {v : V} (h : σ[i]? = some (some v)) : σ.set i (some v) = σ := by
  refine List.ext_getElem? fun j => ?_
  by_cases e : i = j
  · subst e
    rw [List.getElem?_set_self (List.getElem?_eq_some_iff.mp h).1, h]
  · rw [List.getElem?_set_ne e]
/-- the container of a slot is frozen -/
theorem Ok.fzB (o : Ok E hk ρ F H oa σ) {i : Nat} {d : D} (e : ρ.sl[i]? = some (some (.ow d))) : ∃ v F' oa', σ[i]? = some (some v) ∧ Same F F' ∧ Ok E hk (ρ.put i (.fz d)) F' H oa' σ ∧ Rp F' d v := by
  obtain ⟨v, ev, a, ea, e2, w⟩ := o.sl i _ e
  subst e2
  obtain ⟨h1, h2, h3, h4, h5, h6⟩ := o.own i a ea
  obtain ⟨u, eu, q⟩ := w.there
  obtain ⟨s, o2⟩ := (o.clr i).fz1 eu h2 h3 h4 (fun j z => (off_some z).1 (o.inj j i a (off_some z).2 ea)) h5
  have r := q _ s upd_same
  have o3 := o2.setF h6 r
  rw [set_same ev] at o3
  have e4 : (⟨ρ.sl.set i none, ρ.g⟩ : PSt α).put i (.fz d) = ρ.put i (.fz d) := set_put ρ i (.fz d)
  rw [e4] at o3
  exact ⟨_, _, _, ev, s, o3, r⟩
/-- the container of a slot is changed in place -/
theorem Ok.mut (o : Ok E hk ρ F H oa σ) {i : Nat} {d d' : D} (e : ρ.sl[i]? = some (some (.ow d))) : ∃ a, σ[i]? = some (some (.ref a)) ∧ Oc F H d a ∧
    ∀ u, Oc F (upd H a u) d' a → Ok E hk (ρ.put i (.ow d')) F (upd H a u) oa σ := by
  obtain ⟨v, ev, a, ea, e2, w⟩ := o.sl i _ e
  subst e2
  obtain ⟨h1, h2, h3, h4, h5, h6⟩ := o.own i a ea
  refine ⟨a, ev, w, fun u w' => ?_⟩
  have ne : ∀ {b : Addr}, b ≠ a → (upd H a u) b = H b := fun h => upd_ne h
  refine ⟨⟨fun b x q => ?_, E.R.keep o.o.reg (Same.refl _) fun b x s q => ?_, o.o.rF, o.o.same, o.o.new, fun b x s q => ?_, o.o.sE, fun p hp => ?_, o.o.nl⟩, by simp [PSt.put, o.len], fun j s q => ?_, fun j b q => ?_, o.inj⟩
  · rw [ne fun z => by rw [z, h2] at q; cases q]
    exact o.sub b x q
  · rw [ne fun z => h3 (z ▸ s)]
    exact q
  · rcases o.o.kp b x s q with z | z
    · left
      rw [ne fun y => ?_]
      · exact z
      · subst y
        rcases h4 with y | y
        · rw [y] at q; cases q
        · exact s y
    · exact .inr z
  · obtain ⟨p1, p2, p3⟩ := o.o.hd p hp
    refine ⟨?_, p2, p3⟩
    rw [ne (h5 p hp)]
    exact p1
  · unfold PSt.put at q
    by_cases h : i = j
    · subst h
      rw [List.getElem?_set_self (by rw [o.len]; exact h6)] at q
      cases q
      exact ⟨_, ev, a, ea, rfl, w'⟩
    · rw [List.getElem?_set_ne h] at q
      obtain ⟨x, ex, hx⟩ := o.sl j s q
      refine ⟨x, ex, ?_⟩
      cases s with
      | fz d => exact hx
      | ow d =>
        obtain ⟨b, eb, e2, wb⟩ := hx
        refine ⟨b, eb, e2, wb.mono (Same.refl _) fun y z => ?_⟩
        rw [ne fun y => h (o.inj i j a ea (y ▸ eb))]
        exact z
  · obtain ⟨g1, g2, g3⟩ := o.own j b q
    refine ⟨?_, g2, g3⟩
    by_cases h : b = a
    · rw [h, upd_same]
      exact fun z => by cases z
    · rw [ne h]
      exact g1
end
end Pu

/-! readings over plain data: expressions, tests, arguments -/
namespace Pu
open PySem L2 Ow
abbrev WE (α : Type) := PSt α → (Tv → PSt α → Prop) → Prop
abbrev WT (α : Type) := PSt α → (Bool → PSt α → Prop) → Prop
abbrev WA (α : Type) := PSt α → (List Tv → PSt α → Prop) → Prop
variable {α : Type}
def Tv.st : Tv → Tv
  | .fz d => .fz d
  | .ow d => .fz d
  | .br i => .br i
/-- what a slot holds, by its kind -/
def slK (s : Option (Option SV)) (kf ko : D → Prop) : Prop := match s with
  | some (some (.fz d)) => kf d
  | some (some (.ow d)) => ko d
  | _ => False
theorem slK_fz {d : D} {kf ko : D → Prop} : slK (some (some (.fz d))) kf ko = kf d := rfl
theorem slK_ow {d : D} {kf ko : D → Prop} : slK (some (some (.ow d))) kf ko = ko d := rfl
theorem st_fz {d : D} : (Tv.fz d).st = .fz d := rfl
theorem st_ow {d : D} : (Tv.ow d).st = .fz d := rfl
theorem st_br {i : Nat} : (Tv.br i).st = .br i := rfl
/-- frozen, and read as data -/
def fzT (t : Tv) (ρ : PSt α) (k : D → PSt α → Prop) : Prop := match t with
  | .fz d => k d ρ
  | .ow d => k d ρ
  | .br i => slK ρ.sl[i]? (fun d => k d ρ) (fun d => k d (ρ.put i (.fz d)))
theorem fzT_fz {d : D} {ρ : PSt α} {k : D → PSt α → Prop} : fzT (.fz d) ρ k = k d ρ := rfl
theorem fzT_ow {d : D} {ρ : PSt α} {k : D → PSt α → Prop} : fzT (.ow d) ρ k = k d ρ := rfl
theorem fzT_br {i : Nat} {ρ : PSt α} {k : D → PSt α → Prop} : fzT (.br i) ρ k = slK ρ.sl[i]? (fun d => k d ρ) (fun d => k d (ρ.put i (.fz d))) := rfl
/-- read only -/
def rdT (t : Tv) (ρ : PSt α) (k : D → Prop) : Prop := match t with
  | .fz d => k d
  | .ow d => k d
  | .br i => slK ρ.sl[i]? k k
theorem rdT_fz {d : D} {ρ : PSt α} {k : D → Prop} : rdT (.fz d) ρ k = k d := rfl
theorem rdT_ow {d : D} {ρ : PSt α} {k : D → Prop} : rdT (.ow d) ρ k = k d := rfl
theorem rdT_br {i : Nat} {ρ : PSt α} {k : D → Prop} : rdT (.br i) ρ k = slK ρ.sl[i]? k k := rfl
def fzA : List Tv → PSt α → (List D → PSt α → Prop) → Prop
  | [], ρ, k => k [] ρ
  | t :: ts, ρ, k => fzT t ρ fun d ρ1 => fzA ts ρ1 fun ds ρ2 => k (d :: ds) ρ2
def rdA : List Tv → PSt α → (List D → Prop) → Prop
  | [], _, k => k []
  | t :: ts, ρ, k => rdT t ρ fun d => rdA ts ρ fun ds => k (d :: ds)
def TvsOk (E : En α) (hk : Hd) (ρ : PSt α) : List Tv → List V → Hp → Hp → (Nat → Option Addr) → St → Prop
  | [], vs, _, _, _, _ => vs = []
  | t :: ts, vs, F, H, oa, σ => ∃ v r, vs = v :: r ∧ TvOk E hk ρ t.st v F H oa σ ∧ t.st = t ∧ TvsOk E hk ρ ts r F H oa σ
section
variable {E : En α} {hk : Hd} {ρ ρ' : PSt α} {F H F' H' : Hp} {oa oa' : Nat → Option Addr} {σ : St} {t : Tv} {v : V}
theorem st_ok (o : Ok E hk ρ F H oa σ) (h : TvOk E hk ρ t v F H oa σ) : ∃ F', Same F F' ∧ Ok E hk ρ F' H oa σ ∧ TvOk E hk ρ t.st v F' H oa σ := by
  cases t with
  | fz d => exact ⟨F, Same.refl _, o, h⟩
  | ow d => exact o.fzO h
  | br i => exact ⟨F, Same.refl _, o, h⟩
theorem st_keep (h : TvOk E hk ρ t.st v F H oa σ) (s : Same F F') : TvOk E hk ρ' t.st v F' H' oa' σ := by
  cases t with
  | fz d => exact Rp.mono s h
  | ow d => exact Rp.mono s h
  | br i => exact h
theorem tvs_keep : ∀ {ts : List Tv} {vs : List V}, TvsOk E hk ρ ts vs F H oa σ → Same F F' → TvsOk E hk ρ' ts vs F' H' oa' σ
  | [], _, h, _ => h
  | t :: ts, vs, h, s => by
    obtain ⟨v, r, e, h1, e1, h2⟩ := h
    exact ⟨v, r, e, st_keep h1 s, e1, tvs_keep h2 s⟩
theorem rd_ok (o : Ok E hk ρ F H oa σ) (h : TvOk E hk ρ t v F H oa σ) {k : D → Prop} (q : rdT t ρ k) : ∃ d, Vw F H d v ∧ k d := by
  cases t with
  | fz d => exact ⟨d, Rp.vw h o.sub, q⟩
  | ow d =>
    obtain ⟨a, e, w, _⟩ := h
    subst e
    exact ⟨d, w.vw, q⟩
  | br i =>
    dsimp only [rdT, slK] at q
    have h : σ[i]? = some (some v) := h
    split at q
    · rename_i d e
      obtain ⟨u, eu, r⟩ := o.sl i _ e
      rw [h] at eu
      cases eu
      exact ⟨d, Rp.vw r o.sub, q⟩
    · rename_i d e
      obtain ⟨u, eu, a, _, e2, w⟩ := o.sl i _ e
      rw [h] at eu
      cases eu
      subst e2
      exact ⟨d, w.vw, q⟩
    · exact q.elim
theorem fz_ok (o : Ok E hk ρ F H oa σ) (h : TvOk E hk ρ t v F H oa σ) {k : D → PSt α → Prop} (q : fzT t ρ k) : ∃ d ρ' F' oa', Same F F' ∧ Ok E hk ρ' F' H oa' σ ∧ Rp F' d v ∧ k d ρ' := by
  cases t with
  | fz d => exact ⟨d, ρ, F, oa, Same.refl _, o, h, q⟩
  | ow d =>
    obtain ⟨F', s, o', r⟩ := o.fzO h
    exact ⟨d, ρ, F', oa, s, o', r, q⟩
  | br i =>
    dsimp only [fzT, slK] at q
    have h : σ[i]? = some (some v) := h
    split at q
    · rename_i d e
      obtain ⟨u, eu, r⟩ := o.sl i _ e
      rw [h] at eu
      cases eu
      exact ⟨d, ρ, F, oa, Same.refl _, o, r, q⟩
    · rename_i d e
      obtain ⟨u, F', oa', eu, s, o', r⟩ := o.fzB e
      rw [h] at eu
      cases eu
      exact ⟨d, _, F', oa', s, o', r, q⟩
    · exact q.elim
theorem fzA_ok : ∀ {ts : List Tv} {vs : List V} {ρ : PSt α} {F : Hp} {oa : Nat → Option Addr} {k : List D → PSt α → Prop}, Ok E hk ρ F H oa σ → TvsOk E hk ρ ts vs F H oa σ → fzA ts ρ k →
    ∃ ds ρ' F' oa', Same F F' ∧ Ok E hk ρ' F' H oa' σ ∧ RpL F' ds vs ∧ ds.length = ts.length ∧ k ds ρ'
  | [], vs, ρ, F, oa, k, o, h, q => by
    have h : vs = [] := h
    subst h
    exact ⟨[], ρ, F, oa, Same.refl _, o, RpL.nil, rfl, q⟩
  | t :: ts, vs, ρ, F, oa, k, o, h, q => by
    obtain ⟨v, r, e, h1, e1, h2⟩ := h
    subst e
    rw [e1] at h1
    obtain ⟨d, ρ1, F1, oa1, s1, o1, r1, q1⟩ := fz_ok o h1 q
    obtain ⟨ds, ρ2, F2, oa2, s2, o2, r2, l2, q2⟩ := fzA_ok o1 (tvs_keep h2 s1) q1
    exact ⟨d :: ds, ρ2, F2, oa2, s1.trans s2, o2, RpL.cons (Rp.mono s2 r1) r2, by simp [l2], q2⟩
end
/-! ### liftings -/
def lE (E : En α) (w : WE α) : TE := fun σ H Q => ∃ hk ρ F oa Qp, Ok E hk ρ F H oa σ ∧ w ρ Qp ∧ ∀ t ρ' v F' H' oa', Qp t ρ' → Same F F' → Ok E hk ρ' F' H' oa' σ → TvOk E hk ρ' t v F' H' oa' σ → Q v H'
def lT (E : En α) (w : WT α) : TT := fun σ H Q => ∃ hk ρ F oa Qp, Ok E hk ρ F H oa σ ∧ w ρ Qp ∧ ∀ b ρ' F' H' oa', Qp b ρ' → Same F F' → Ok E hk ρ' F' H' oa' σ → Q b H'
def lA (E : En α) (n : Nat) (w : WA α) : TA := fun σ H Q => ∃ hk ρ F oa Qp, Ok E hk ρ F H oa σ ∧ w ρ Qp ∧ ∀ ts ρ' vs F' H' oa', Qp ts ρ' → ts.length = n → Same F F' → Ok E hk ρ' F' H' oa' σ → TvsOk E hk ρ' ts vs F' H' oa' σ → Q vs H'
abbrev QE (X : Cx) (E : En α) (e : Expr) (w : WE α) : Prop := PE X e (lE E w)
abbrev QT (X : Cx) (E : En α) (e : Expr) (w : WT α) : Prop := PT X e (lT E w)
abbrev QW (X : Cx) (E : En α) (e : Expr) (w : WT α) : Prop := PW X e (lT E w)
abbrev QA (X : Cx) (E : En α) (es : List Expr) (n : Nat) (w : WA α) : Prop := PA X es (lA E n w)
section
variable {X : Cx} {e : Expr} {es : List Expr} {st : Stmt} {sts : List Stmt}
theorem _root_.L2.PE.im {t t' : TE} (h : PE X e t) (f : ∀ σ H Q, t' σ H Q → t σ H Q) : PE X e t' := ⟨fun pins s σ H Q I q => h.run pins s σ H Q I (f σ H Q q)⟩
theorem _root_.L2.PT.im {t t' : TT} (h : PT X e t) (f : ∀ σ H Q, t' σ H Q → t σ H Q) : PT X e t' := ⟨fun pins s σ H Q I q => h.run pins s σ H Q I (f σ H Q q)⟩
theorem _root_.L2.PW.im {t t' : TT} (h : PW X e t) (f : ∀ σ H Q, t' σ H Q → t σ H Q) : PW X e t' := ⟨fun wh pins s σ H Q I q => h.run wh pins s σ H Q I (f σ H Q q)⟩
theorem _root_.L2.PA.im {t t' : TA} (h : PA X es t) (f : ∀ σ H Q, t' σ H Q → t σ H Q) : PA X es t' := ⟨fun pos pins s σ H Q I q => h.run pos pins s σ H Q I (f σ H Q q)⟩
theorem _root_.L2.PS.im {t t' : TS} (h : PS X st t) (f : ∀ D σ H, t' D σ H → t D σ H) : PS X st t' := ⟨fun pins s σ H D I q => h.run pins s σ H D I (f D σ H q)⟩
theorem _root_.L2.PSs.im {t t' : TS} (h : PSs X sts t) (f : ∀ D σ H, t' D σ H → t D σ H) : PSs X sts t' := ⟨fun pins s σ H D I q => h.run pins s σ H D I (f D σ H q)⟩
theorem _root_.L2.PG.im {t t' : TG} (h : PG X e t) (f : ∀ v σ H Q, t' v σ H Q → t v σ H Q) : PG X e t' := ⟨fun pins s σ H v u Q I r q => h.run pins s σ H v u Q I r (f v σ H Q q)⟩
theorem _root_.L2.PGs.im {t t' : TGs} (h : PGs X es t) (f : ∀ v σ H Q, t' v σ H Q → t v σ H Q) : PGs X es t' := ⟨fun pins s σ H v u Q I r q => h.run pins s σ H v u Q I r (f v σ H Q q)⟩
theorem _root_.L2.PTs.im {t t' : TT} (h : PTs X es t) (f : ∀ σ H Q, t' σ H Q → t σ H Q) : PTs X es t' := ⟨fun pins s σ H Q I q => h.run pins s σ H Q I (f σ H Q q)⟩
theorem _root_.L2.PI.im {tg : Expr} {t t' : TI} (h : PI X tg e t) (f : ∀ σ H R, t' σ H R → t σ H R) : PI X tg e t' := ⟨fun pins s σ H Q I q => h.run pins s σ H Q I (f σ H Q q)⟩
end
/-! ### names and constants -/
def wVar (i : Nat) : WE α := fun ρ Q => slK ρ.sl[i]? (fun d => Q (.fz d) ρ) (fun _ => Q (.br i) ρ)
def wC (d : D) : WE α := fun ρ Q => Q (.fz d) ρ
section
variable {X : Cx} {E : En α} {a b c e : Expr} {es rest : List Expr} {wa wb wc we : WE α} {wt wu : WT α} {ws : WA α} {pos : Pos} {n : Nat}
theorem lvar {i : Nat} {σ : St} {H : Hp} {Q : VK} (h : lE E (wVar i) σ H Q) : tVar i σ H Q := by
  obtain ⟨hk, ρ, F, oa, Qp, o, hw, post⟩ := h
  unfold wVar slK at hw
  split at hw
  · rename_i d e
    obtain ⟨v, ev, r⟩ := o.sl i _ e
    exact ⟨v, ev, post _ _ v F H oa hw (Same.refl _) o r⟩
  · rename_i d e
    obtain ⟨v, ev, r⟩ := o.sl i _ e
    exact ⟨v, ev, post _ _ v F H oa hw (Same.refl _) o ev⟩
  · exact hw.elim
theorem qv (i : Nat) {x : Str} {pos : Pos} (hN : X.N[i]? = some x := by rfl) (hv : Vis X.env.scope x := by first | exact Or.inl rfl | exact Or.inr (Or.inl rfl) | exact Or.inr (Or.inr rfl)) (hd : (x == ("__debug__" : Str)) = false := by decide)
    (hcd : (x == ("__classdict__" : Str)) = false := by decide) : QE X E (.Name x pos) (wVar i) := (pv i hN hv hd hcd).im fun _ _ _ h => lvar h
theorem lC {d : D} {v : V} (hr : ∀ F, Rp F d v) {σ : St} {H : Hp} {Q : VK} (h : lE E (wC d) σ H Q) : tC v σ H Q := by
  obtain ⟨hk, ρ, F, oa, Qp, o, hw, post⟩ := h
  exact post _ _ v F H oa hw (Same.refl _) o (hr F)
theorem q_int {i : Int} {j pos} : QE X E (.Constant (.int i) j pos) (wC (.int i)) := pe_int.im fun _ _ _ h => lC (fun _ => by unfold Rp; rfl) h
theorem q_bl {b : Bool} {j pos} : QE X E (.Constant (.bool b) j pos) (wC (.bl b)) := pe_bl.im fun _ _ _ h => lC (fun _ => by unfold Rp; rfl) h
theorem q_non {j pos} : QE X E (.Constant .none j pos) (wC .non) := pe_non.im fun _ _ _ h => lC (fun _ => by unfold Rp; rfl) h
theorem q_str {x : Str} {j pos} : QE X E (.Constant (.str x) j pos) (wC (.str x)) := pe_str.im fun _ _ _ h => lC (fun _ => by unfold Rp; rfl) h
/-- any reading of a fixed value: a module's constant, a builtin type -/
theorem q_con {d : D} {v : V} (h : PE X e (tC v)) (hr : ∀ F, Rp F d v) : QE X E e (wC d) := h.im fun _ _ _ h => lC hr h
/-! ### arguments, displays -/
def wNil : WA α := fun ρ Q => Q [] ρ
def wCons (we : WE α) (ws : WA α) : WA α := fun ρ Q => we ρ fun t ρ1 => ws ρ1 fun ts ρ2 => Q (t.st :: ts) ρ2
theorem qa_nil : QA X E [] 0 wNil := pa_nil.im fun σ H Q h => by
  obtain ⟨hk, ρ, F, oa, Qp, o, hw, post⟩ := h
  exact post _ _ [] F H oa hw rfl (Same.refl _) o rfl
theorem st_st (t : Tv) : t.st.st = t.st := by cases t <;> rfl
theorem lcons {σ : St} {H : Hp} {Q : List V → Hp → Prop} (h : lA E (n + 1) (wCons we ws) σ H Q) : tCons (lE E we) (lA E n ws) σ H Q := by
  obtain ⟨hk, ρ, F, oa, Qp, o, hw, post⟩ := h
  refine ⟨hk, ρ, F, oa, _, o, hw, fun t1 ρ1 v1 F1 H1 oa1 q1 s1 o1 tv1 => ?_⟩
  obtain ⟨F1', s1', o1', tv1'⟩ := st_ok o1 tv1
  refine ⟨hk, ρ1, F1', oa1, _, o1', q1, fun ts ρ2 vs F2 H2 oa2 q2 l2 s2 o2 tv2 => ?_⟩
  refine post _ ρ2 _ F2 H2 oa2 q2 (by simp [l2]) ((s1.trans s1').trans s2) o2 ⟨v1, vs, rfl, ?_, st_st t1, tv2⟩
  rw [st_st]
  exact st_keep tv1' s2
theorem qa_cons (ha : QE X E e we) (hr : QA X E es n ws) (hs : starEach (e :: es) X.env = (false, eval e X.env) :: starEach es X.env := by rfl) : QA X E (e :: es) (n + 1) (wCons we ws) :=
  (pa_cons ha hr hs).im fun _ _ _ h => lcons h
def wTup (ws : WA α) : WE α := fun ρ Q => ws ρ fun ts ρ1 => fzA ts ρ1 fun ds ρ2 => Q (.fz (.tup ds)) ρ2
def wLst (ws : WA α) : WE α := fun ρ Q => ws ρ fun ts ρ1 => fzA ts ρ1 fun ds ρ2 => Q (.ow (.lst ds)) ρ2
theorem sz1000 {n : Nat} (h : n ≤ 1000) : n ≤ sizeLine := Nat.le_of_lt (small1000 h)
theorem q_tup {k : Nat} (h : QA X E es n ws) (hn : n ≤ 1000 := by decide) : QE X E (.Tuple es k pos) (wTup ws) := (pe_tup h).im fun σ H Q h => by
  obtain ⟨hk, ρ, F, oa, Qp, o, hw, post⟩ := h
  refine ⟨hk, ρ, F, oa, _, o, hw, fun ts ρ1 vs F1 H1 oa1 q1 l1 s1 o1 tv1 => ?_⟩
  obtain ⟨ds, ρ2, F2, oa2, s2, o2, r2, l2, q2⟩ := fzA_ok o1 tv1 q1
  refine ⟨sz1000 (by rw [r2.len, l2, l1]; exact hn), fun p np => ?_⟩
  have gr := Grw.froz (o := .tup vs) o2.sub np
  exact post _ ρ2 _ _ _ oa2 q2 ((s1.trans s2).trans gr.f) (o2.grw gr) (by show Rp _ (.tup ds) _; unfold Rp; exact ⟨p, vs, rfl, upd_same, r2.mono gr.f⟩)
theorem q_lst (h : QA X E es n ws) (hn : n ≤ 1000 := by decide) : QE X E (.List es pos) (wLst ws) := (pe_lst h).im fun σ H Q h => by
  obtain ⟨hk, ρ, F, oa, Qp, o, hw, post⟩ := h
  refine ⟨hk, ρ, F, oa, _, o, hw, fun ts ρ1 vs F1 H1 oa1 q1 l1 s1 o1 tv1 => ?_⟩
  obtain ⟨ds, ρ2, F2, oa2, s2, o2, r2, l2, q2⟩ := fzA_ok o1 tv1 q1
  refine ⟨sz1000 (by rw [r2.len, l2, l1]; exact hn), fun p np => ?_⟩
  have gr := Grw.cell (o := .lst vs) o2.sub np
  exact post _ ρ2 _ _ _ oa2 q2 ((s1.trans s2).trans gr.f) (o2.grw gr) (o2.rs gr (t := .ow (.lst ds)) ⟨p, rfl, ⟨vs, upd_same, r2⟩, o2.sub.none np, np⟩)
/-! ### operators -/
/-- an operation on two values as one on data -/
structure OpS (X : Cx) (f : Value → Value → Sem Value) (g : D → D → (Tv → Prop) → Prop) : Prop where
  ex : ∃ r : R2, OpR X f r ∧ ∀ F H x y d1 d2 P Q, Sub F H → Vw F H d1 x → Vw F H d2 y → g d1 d2 P → (∀ t v F' H', P t → Grw F H F' H' → RsOk F H F' H' t v → Q v H') → r x y H Q
def wOp (g : D → D → (Tv → Prop) → Prop) (wa wb : WE α) : WE α := fun ρ Q => wa ρ fun t1 ρ1 => wb ρ1 fun t2 ρ2 => rdT t1.st ρ2 fun d1 => rdT t2 ρ2 fun d2 => g d1 d2 fun r => Q r ρ2
variable {g g' : D → D → (Tv → Prop) → Prop}
theorem lop {r : R2} (ok : ∀ F H x y d1 d2 P Q, Sub F H → Vw F H d1 x → Vw F H d2 y → g d1 d2 P → (∀ t v F' H', P t → Grw F H F' H' → RsOk F H F' H' t v → Q v H') → r x y H Q)
    {σ : St} {H : Hp} {Q : VK} (h : lE E (wOp g wa wb) σ H Q) : tOp r (lE E wa) (lE E wb) σ H Q := by
  obtain ⟨hk, ρ, F, oa, Qp, o, hw, post⟩ := h
  refine ⟨hk, ρ, F, oa, _, o, hw, fun t1 ρ1 v1 F1 H1 oa1 q1 s1 o1 tv1 => ?_⟩
  obtain ⟨F1', s1', o1', tv1'⟩ := st_ok o1 tv1
  refine ⟨hk, ρ1, F1', oa1, _, o1', q1, fun t2 ρ2 v2 F2 H2 oa2 q2 s2 o2 tv2 => ?_⟩
  obtain ⟨d1, w1, q2⟩ := rd_ok o2 (st_keep tv1' s2) q2
  obtain ⟨d2, w2, q3⟩ := rd_ok o2 tv2 q2
  refine ok F2 H2 v1 v2 d1 d2 _ Q o2.sub w1 w2 q3 fun t v F' H' p gr rs => ?_
  exact post t ρ2 v F' H' oa2 p (((s1.trans s1').trans s2).trans gr.f) (o2.grw gr) (o2.rs gr rs)
theorem q_op {op : Operator} (ho : OpS X (binaryOp op) g) (ha : QE X E a wa) (hb : QE X E b wb) : QE X E (.BinOp a op b pos) (wOp g wa wb) := by
  obtain ⟨r, hr, ok⟩ := ho.ex
  exact (pe_op hr ha hb).im fun _ _ _ h => lop ok h
theorem q_cmp {op : CmpOp} (ho : OpS X (compareOp op) g) (ha : QE X E a wa) (hb : QE X E b wb) (hm : behindInMarks op b = false) : QE X E (.Compare a [op] [b] pos) (wOp g wa wb) := by
  obtain ⟨r, hr, ok⟩ := ho.ex
  exact (pe_cmpR hr ha hb hm).im fun _ _ _ h => lop ok h
/-- a value that is a truth value, as a test -/
def blT (t : Tv) (k : Bool → Prop) : Prop := match t with
  | .fz (.bl c) => k c
  | _ => False
theorem blT_bl {b : Bool} {k : Bool → Prop} : blT (.fz (.bl b)) k = k b := rfl
def wTst (we : WE α) : WT α := fun ρ Q => we ρ fun t ρ1 => blT t fun c => Q c ρ1
theorem ltst {t : TE} (ht : ∀ σ H Q, lE E we σ H Q → t σ H Q) {σ : St} {H : Hp} {Q : Bool → Hp → Prop} (h : lT E (wTst we) σ H Q) : t σ H fun x H' => ∃ k, x = .bl k ∧ Q k H' := by
  obtain ⟨hk, ρ, F, oa, Qp, o, hw, post⟩ := h
  refine ht _ _ _ ⟨hk, ρ, F, oa, _, o, hw, fun t1 ρ1 v1 F1 H1 oa1 q1 s1 o1 tv1 => ?_⟩
  unfold blT at q1
  split at q1
  · rename_i c
    exact ⟨c, by have : Rp F1 (.bl c) v1 := tv1; unfold Rp at this; exact this, post c ρ1 F1 H1 oa1 q1 s1 o1⟩
  · exact q1.elim
theorem qt_cmp {op : CmpOp} (ho : OpS X (compareOp op) g) (ha : QE X E a wa) (hb : QE X E b wb) (hm : behindInMarks op b = false) : QT X E (.Compare a [op] [b] pos) (wTst (wOp g wa wb)) := by
  obtain ⟨r, hr, ok⟩ := ho.ex
  exact (pt_cmpR hr ha hb hm).im fun _ _ _ h => ltst (t := tOp r (lE E wa) (lE E wb)) (fun _ _ _ h => lop ok h) h
theorem qt_val (h : QE X E e we) (he : ∀ whole, isTrue e X.env whole = (do let v ← whole; standAt e.pos; holding [v] (truthy v)) := by intro _; rfl) : QT X E e (wTst we) :=
  (pt_val h he).im fun _ _ _ h => ltst (fun _ _ _ h => h) h
def wChain (g g' : D → D → (Tv → Prop) → Prop) (wa wb wc : WE α) : WE α := fun ρ Q => wa ρ fun t1 ρ1 => wb ρ1 fun t2 ρ2 => rdT t1.st ρ2 fun d1 => rdT t2.st ρ2 fun d2 => g d1 d2 fun r => blT r fun b => if b = true then wc ρ2 fun t3 ρ3 => rdT t2.st ρ3 fun d2 => rdT t3 ρ3 fun d3 => g' d2 d3 fun r' => Q r' ρ3 else Q (.fz (.bl false)) ρ2
theorem lchain {r r' : R2} (ok : ∀ F H x y d1 d2 P Q, Sub F H → Vw F H d1 x → Vw F H d2 y → g d1 d2 P → (∀ t v F' H', P t → Grw F H F' H' → RsOk F H F' H' t v → Q v H') → r x y H Q)
    (ok' : ∀ F H x y d1 d2 P Q, Sub F H → Vw F H d1 x → Vw F H d2 y → g' d1 d2 P → (∀ t v F' H', P t → Grw F H F' H' → RsOk F H F' H' t v → Q v H') → r' x y H Q)
    {σ : St} {H : Hp} {Q : VK} (h : lE E (wChain g g' wa wb wc) σ H Q) : tChain r r' (lE E wa) (lE E wb) (lE E wc) σ H Q := by
  obtain ⟨hk, ρ, F, oa, Qp, o, hw, post⟩ := h
  refine ⟨hk, ρ, F, oa, _, o, hw, fun t1 ρ1 v1 F1 H1 oa1 q1 s1 o1 tv1 => ?_⟩
  obtain ⟨F1', s1', o1', tv1'⟩ := st_ok o1 tv1
  refine ⟨hk, ρ1, F1', oa1, _, o1', q1, fun t2 ρ2 v2 F2 H2 oa2 q2 s2 o2 tv2 => ?_⟩
  obtain ⟨F2', s2', o2', tv2'⟩ := st_ok o2 tv2
  obtain ⟨d1, w1, q2⟩ := rd_ok o2' (st_keep tv1' (s2.trans s2')) q2
  obtain ⟨d2, w2, q3⟩ := rd_ok o2' tv2' q2
  refine ok F2' H2 v1 v2 d1 d2 _ _ o2'.sub w1 w2 q3 fun t v F' H' p gr rs => ?_
  have S2 := ((s1.trans s1').trans (s2.trans s2')).trans gr.f
  unfold blT at p
  split at p
  · rename_i b
    cases b with
    | true =>
      have p : wc ρ2 fun t3 ρ3 => rdT t2.st ρ3 fun d2 => rdT t3 ρ3 fun d3 => g' d2 d3 fun r' => Qp r' ρ3 := p
      refine ⟨true, by have : Rp F' (.bl true) v := rs; unfold Rp at this; exact this, ?_⟩
      refine iteT ⟨hk, ρ2, F', oa2, _, o2'.grw gr, p, fun t3 ρ3 v3 F3 H3 oa3 q4 s3 o3 tv3 => ?_⟩
      obtain ⟨d2, w2, q4⟩ := rd_ok o3 (st_keep tv2' (gr.f.trans s3)) q4
      obtain ⟨d3, w3, q5⟩ := rd_ok o3 tv3 q4
      refine ok' F3 H3 v2 v3 d2 d3 _ Q o3.sub w2 w3 q5 fun t' v' F4 H4 p4 gr4 rs4 => ?_
      exact post t' ρ3 v' F4 H4 oa3 p4 ((S2.trans s3).trans gr4.f) (o3.grw gr4) (o3.rs gr4 rs4)
    | false =>
      have p : Qp (.fz (.bl false)) ρ2 := p
      refine ⟨false, by have : Rp F' (.bl false) v := rs; unfold Rp at this; exact this, ?_⟩
      exact iteF (post _ ρ2 _ F' H' oa2 p S2 (o2'.grw gr) (by show Rp _ _ _; unfold Rp; rfl))
  · exact p.elim
theorem q_chain {op op' : CmpOp} (ho : OpS X (compareOp op) g) (ho' : OpS X (compareOp op') g') (ha : QE X E a wa) (hb : QE X E b wb) (hc : QE X E c wc) (hm : lastMarks [op, op'] [b, c] = false := by with_unfolding_all rfl) :
    QE X E (.Compare a [op, op'] [b, c] pos) (wChain g g' wa wb wc) := by
  obtain ⟨r, hr, ok⟩ := ho.ex
  obtain ⟨r', hr', ok'⟩ := ho'.ex
  exact (pe_chain hr hr' ha hb hc hm).im fun _ _ _ h => lchain ok ok' h
theorem qt_chain {op op' : CmpOp} (ho : OpS X (compareOp op) g) (ho' : OpS X (compareOp op') g') (ha : QE X E a wa) (hb : QE X E b wb) (hc : QE X E c wc) (hm : lastMarks [op, op'] [b, c] = false := by with_unfolding_all rfl) :
    QT X E (.Compare a [op, op'] [b, c] pos) (wTst (wChain g g' wa wb wc)) := by
  obtain ⟨r, hr, ok⟩ := ho.ex
  obtain ⟨r', hr', ok'⟩ := ho'.ex
  exact (pt_chain hr hr' ha hb hc hm).im fun _ _ _ h => ltst (t := tChain r r' (lE E wa) (lE E wb) (lE E wc)) (fun _ _ _ h => lchain ok ok' h) h
/-! ### and, or, not, if -/
def wAnd (wt wu : WT α) : WT α := fun ρ Q => wt ρ fun c ρ1 => if c = true then wu ρ1 Q else Q false ρ1
def wOr (wt wu : WT α) : WT α := fun ρ Q => wt ρ fun c ρ1 => if c = true then Q true ρ1 else wu ρ1 Q
def wNot (wt : WT α) : WT α := fun ρ Q => wt ρ fun c ρ1 => Q (!c) ρ1
theorem qw_and1 (ha : QT X E a wt) : QW X E (.BoolOp .And [a] pos) wt := pw_and1 ha
theorem qw_or1 (ha : QT X E a wt) : QW X E (.BoolOp .Or [a] pos) wt := pw_or1 ha
theorem qw_and (ha : QT X E a wt) (hb : QW X E (.BoolOp .And (b :: rest) pos) wu) : QW X E (.BoolOp .And (a :: b :: rest) pos) (wAnd wt wu) := (pw_and ha hb).im fun σ H Q h => by
  obtain ⟨hk, ρ, F, oa, Qp, o, hw, post⟩ := h
  refine ⟨hk, ρ, F, oa, _, o, hw, fun c ρ1 F1 H1 oa1 q1 s1 o1 => ?_⟩
  cases c with
  | true => exact iteT ⟨hk, ρ1, F1, oa1, _, o1, q1, fun c ρ2 F2 H2 oa2 q2 s2 o2 => post c ρ2 F2 H2 oa2 q2 (s1.trans s2) o2⟩
  | false => exact iteF (post _ ρ1 F1 H1 oa1 q1 s1 o1)
theorem qw_or (ha : QT X E a wt) (hb : QW X E (.BoolOp .Or (b :: rest) pos) wu) : QW X E (.BoolOp .Or (a :: b :: rest) pos) (wOr wt wu) := (pw_or ha hb).im fun σ H Q h => by
  obtain ⟨hk, ρ, F, oa, Qp, o, hw, post⟩ := h
  refine ⟨hk, ρ, F, oa, _, o, hw, fun c ρ1 F1 H1 oa1 q1 s1 o1 => ?_⟩
  cases c with
  | true => exact iteT (post _ ρ1 F1 H1 oa1 q1 s1 o1)
  | false => exact iteF ⟨hk, ρ1, F1, oa1, _, o1, q1, fun c ρ2 F2 H2 oa2 q2 s2 o2 => post c ρ2 F2 H2 oa2 q2 (s1.trans s2) o2⟩
theorem qt_w (h : QW X E e wt) : QT X E e wt := h.pt
theorem qt_not (ha : QT X E a wt) : QT X E (.UnaryOp .Not a pos) (wNot wt) := (pt_not ha).im fun σ H Q h => by
  obtain ⟨hk, ρ, F, oa, Qp, o, hw, post⟩ := h
  exact ⟨hk, ρ, F, oa, _, o, hw, fun c ρ1 F1 H1 oa1 q1 s1 o1 => post _ ρ1 F1 H1 oa1 q1 s1 o1⟩
/-- .. as values (truth values) -/
theorem bl_ok {hk : Hd} {ρ : PSt α} {t : Tv} {v : V} {F H : Hp} {oa : Nat → Option Addr} {σ : St} {k : Bool → Prop} (h : TvOk E hk ρ t v F H oa σ) (q : blT t k) : ∃ c, v = .bl c ∧ k c := by
  unfold blT at q
  split at q
  · rename_i c
    have : Rp F (.bl c) v := h
    unfold Rp at this
    exact ⟨c, this, q⟩
  · exact q.elim
def wAndV (wa wb : WE α) : WE α := fun ρ Q => wa ρ fun t ρ1 => blT t fun c => if c = true then wb ρ1 Q else Q (.fz (.bl false)) ρ1
def wOrV (wa wb : WE α) : WE α := fun ρ Q => wa ρ fun t ρ1 => blT t fun c => if c = true then Q (.fz (.bl true)) ρ1 else wb ρ1 Q
def wNotV (wa : WE α) : WE α := fun ρ Q => wa ρ fun t ρ1 => blT t fun c => Q (.fz (.bl (!c))) ρ1
theorem rpb {F : Hp} {b : Bool} : Rp F (.bl b) (.bl b) := by unfold Rp; rfl
theorem q_one {op} (h : QE X E a wa) : QE X E (.BoolOp op [a] pos) wa := pe_one h
theorem q_and (ha : QE X E a wa) (hb : QE X E (.BoolOp .And (b :: rest) pos) wb) : QE X E (.BoolOp .And (a :: b :: rest) pos) (wAndV wa wb) := (pe_and ha hb).im fun σ H Q h => by
  obtain ⟨hk, ρ, F, oa, Qp, o, hw, post⟩ := h
  refine ⟨hk, ρ, F, oa, _, o, hw, fun t1 ρ1 v1 F1 H1 oa1 q1 s1 o1 tv1 => ?_⟩
  obtain ⟨c, rfl, q1⟩ := bl_ok tv1 q1
  refine ⟨c, rfl, ?_⟩
  cases c with
  | true => exact iteT ⟨hk, ρ1, F1, oa1, _, o1, q1, fun c ρ2 v2 F2 H2 oa2 q2 s2 o2 tv => post c ρ2 v2 F2 H2 oa2 q2 (s1.trans s2) o2 tv⟩
  | false => exact iteF (post _ ρ1 _ F1 H1 oa1 q1 s1 o1 (rpb (F := F1)))
theorem q_or (ha : QE X E a wa) (hb : QE X E (.BoolOp .Or (b :: rest) pos) wb) : QE X E (.BoolOp .Or (a :: b :: rest) pos) (wOrV wa wb) := (pe_or ha hb).im fun σ H Q h => by
  obtain ⟨hk, ρ, F, oa, Qp, o, hw, post⟩ := h
  refine ⟨hk, ρ, F, oa, _, o, hw, fun t1 ρ1 v1 F1 H1 oa1 q1 s1 o1 tv1 => ?_⟩
  obtain ⟨c, rfl, q1⟩ := bl_ok tv1 q1
  refine ⟨c, rfl, ?_⟩
  cases c with
  | true => exact iteT (post _ ρ1 _ F1 H1 oa1 q1 s1 o1 (rpb (F := F1)))
  | false => exact iteF ⟨hk, ρ1, F1, oa1, _, o1, q1, fun c ρ2 v2 F2 H2 oa2 q2 s2 o2 tv => post c ρ2 v2 F2 H2 oa2 q2 (s1.trans s2) o2 tv⟩
theorem q_not (ha : QE X E a wa) : QE X E (.UnaryOp .Not a pos) (wNotV wa) := (pe_not ha).im fun σ H Q h => by
  obtain ⟨hk, ρ, F, oa, Qp, o, hw, post⟩ := h
  refine ⟨hk, ρ, F, oa, _, o, hw, fun t1 ρ1 v1 F1 H1 oa1 q1 s1 o1 tv1 => ?_⟩
  obtain ⟨c, rfl, q1⟩ := bl_ok tv1 q1
  exact ⟨c, rfl, post _ ρ1 _ F1 H1 oa1 q1 s1 o1 (rpb (F := F1))⟩
def wIfE (wt : WT α) (wa wb : WE α) : WE α := fun ρ Q => wt ρ fun c ρ1 => if c = true then wa ρ1 Q else wb ρ1 Q
theorem q_ifE (hc : QT X E c wt) (ha : QE X E a wa) (hb : QE X E b wb) : QE X E (.IfExp c a b pos) (wIfE wt wa wb) := (pe_ifExp hc ha hb).im fun σ H Q h => by
  obtain ⟨hk, ρ, F, oa, Qp, o, hw, post⟩ := h
  refine ⟨hk, ρ, F, oa, _, o, hw, fun c ρ1 F1 H1 oa1 q1 s1 o1 => ?_⟩
  cases c with
  | true => exact iteT ⟨hk, ρ1, F1, oa1, _, o1, q1, fun c ρ2 v2 F2 H2 oa2 q2 s2 o2 tv => post c ρ2 v2 F2 H2 oa2 q2 (s1.trans s2) o2 tv⟩
  | false => exact iteF ⟨hk, ρ1, F1, oa1, _, o1, q1, fun c ρ2 v2 F2 H2 oa2 q2 s2 o2 tv => post c ρ2 v2 F2 H2 oa2 q2 (s1.trans s2) o2 tv⟩
/-! ### one value: a unary operator, truth, a call of a builtin -/
def wUn (g : D → (Tv → Prop) → Prop) (wa : WE α) : WE α := fun ρ Q => wa ρ fun t1 ρ1 => rdT t1 ρ1 fun d => g d fun r => Q r ρ1
/-- len of what can be true or false -/
def truD : D → Option Bool
  | .non => some false
  | .bl b => some b
  | .int i => some (i != 0)
  | .str y => if y.length ≤ sizeLine then some ((y.length : Int) != 0) else none
  | .tup l => some !l.isEmpty
  | .lst l => some !l.isEmpty
  | _ => none
def opK {β : Type} (o : Option β) (k : β → Prop) : Prop := match o with
  | some b => k b
  | none => False
theorem opK_some {β : Type} {b : β} {k : β → Prop} : opK (some b) k = k b := rfl
def wTru (we : WE α) : WT α := fun ρ Q => we ρ fun t ρ1 => rdT t ρ1 fun d => opK (truD d) fun b => Q b ρ1
theorem empty_len {β γ : Type} {l : List β} {m : List γ} (h : l.length = m.length) : l.isEmpty = m.isEmpty := by
  cases l <;> cases m <;> simp at h ⊢
theorem tru_vw {K : PySem.W.Frag} {F H : Hp} {d : D} {v : V} {b : Bool} (s : Sub F H) (w : Vw F H d v) (e : truD d = some b) : TruV K v H b := by
  cases d with
  | non =>
    have w : Rp F .non v := w
    unfold Rp at w
    subst w
    cases e
    rfl
  | bl b =>
    have w : Rp F (.bl b) v := w
    unfold Rp at w
    subst w
    cases e
    rfl
  | int i =>
    have w : Rp F (.int i) v := w
    unfold Rp at w
    subst w
    cases e
    rfl
  | str y =>
    have w : Rp F (.str y) v := w
    unfold Rp at w
    subst w
    dsimp only [truD] at e
    split at e
    · rename_i hy
      cases e
      exact ⟨hy, rfl⟩
    · cases e
  | tup l =>
    obtain ⟨a, vs, e1, _, e2, hs⟩ := vw_tup w s
    subst e1
    cases e
    exact .inr (.inl ⟨vs, SqT.of e2, by rw [empty_len hs.len]⟩)
  | lst l =>
    obtain ⟨a, vs, e1, e2, hs⟩ := w
    subst e1
    cases e
    exact .inl ⟨vs, SqL.of e2, by rw [empty_len hs.len]⟩
  | _ => cases e
theorem qt_tru (ha : QE X E e we) (he : ∀ whole, isTrue e X.env whole = (do let v ← whole; standAt e.pos; holding [v] (truthy v)) := by intro _; rfl) : QT X E e (wTru we) := (pt_truth ha he).im fun σ H Q h => by
  obtain ⟨hk, ρ, F, oa, Qp, o, hw, post⟩ := h
  refine ⟨hk, ρ, F, oa, _, o, hw, fun t1 ρ1 v1 F1 H1 oa1 q1 s1 o1 tv1 => ?_⟩
  obtain ⟨d, w, q⟩ := rd_ok o1 tv1 q1
  unfold opK at q
  split at q
  · rename_i b eb
    exact ⟨b, tru_vw o1.sub w eb, post b ρ1 F1 H1 oa1 q s1 o1⟩
  · exact q.elim
/-- values as they are read -/
def VwL (F H : Hp) (ds : List D) (xs : List V) : Prop := xs.length = ds.length ∧ ∀ (i : Nat) (d : D), ds[i]? = some d → ∃ x, xs[i]? = some x ∧ Vw F H d x
/-- a call of a builtin as one on data -/
structure ClS (X : Cx) (f : Value) (g : List D → (Tv → Prop) → Prop) : Prop where
  ex : ∃ r : List V → Hp → VK → Prop, CallR X f r ∧ ∀ F H xs ds P Q, Sub F H → VwL F H ds xs → g ds P → (∀ t v F' H', P t → Grw F H F' H' → RsOk F H F' H' t v → Q v H') → r xs H Q
def wCB (g : List D → (Tv → Prop) → Prop) (ws : WA α) : WE α := fun ρ Q => ws ρ fun ts ρ1 => rdA ts ρ1 fun ds => g ds fun r => Q r ρ1
variable {gc : List D → (Tv → Prop) → Prop}
theorem rdA_ok {hk : Hd} {ρ : PSt α} {F H : Hp} {oa : Nat → Option Addr} {σ : St} (o : Ok E hk ρ F H oa σ) : ∀ {ts : List Tv} {vs : List V} {k : List D → Prop}, TvsOk E hk ρ ts vs F H oa σ → rdA ts ρ k →
    ∃ ds, VwL F H ds vs ∧ k ds
  | [], vs, k, h, q => by
    have h : vs = [] := h
    subst h
    exact ⟨[], ⟨rfl, fun i d e => by simp at e⟩, q⟩
  | t :: ts, vs, k, h, q => by
    obtain ⟨v, r, e, h1, e1, h2⟩ := h
    subst e
    rw [e1] at h1
    obtain ⟨d, w, q1⟩ := rd_ok o h1 q
    obtain ⟨ds, ⟨l, ws⟩, q2⟩ := rdA_ok o h2 q1
    refine ⟨d :: ds, ⟨by simp [l], fun i d' e => ?_⟩, q2⟩
    cases i with
    | zero =>
      cases e
      exact ⟨v, rfl, w⟩
    | succ i => simpa using ws i d' (by simpa using e)
theorem lcb {r : List V → Hp → VK → Prop} (ok : ∀ F H xs ds P Q, Sub F H → VwL F H ds xs → gc ds P → (∀ t v F' H', P t → Grw F H F' H' → RsOk F H F' H' t v → Q v H') → r xs H Q)
    {σ : St} {H : Hp} {Q : VK} (h : lE E (wCB gc ws) σ H Q) : tCB r (lA E n ws) σ H Q := by
  obtain ⟨hk, ρ, F, oa, Qp, o, hw, post⟩ := h
  refine ⟨hk, ρ, F, oa, _, o, hw, fun ts ρ1 vs F1 H1 oa1 q1 l1 s1 o1 tv1 => ?_⟩
  obtain ⟨ds, w, q⟩ := rdA_ok o1 tv1 q1
  refine ok F1 H1 vs ds _ Q o1.sub w q fun t v F' H' p gr rs => ?_
  exact post t ρ1 v F' H' oa1 p (s1.trans gr.f) (o1.grw gr) (o1.rs gr rs)
theorem q_callB {id : String} {x : Str} {p : Pos} (hc : ClS X (.builtin id) gc) (hg : Gl X x) (hm : X.mg x = none) (hv : bootBuiltins x = some (.builtin id)) (ha : QA X E (e :: es) n ws) (hn : x ≠ "__name__" := by decide) (hdb : (x == ("__debug__" : Str)) = false := by decide)
    (he : starEach (e :: es) X.env = (false, eval e X.env) :: starEach es X.env := by rfl) (hpl : (backTo pos (starEach es X.env)).any (·.1) = false := by rfl) : QE X E (.Call (.Name x p) (e :: es) [] pos) (wCB gc ws) := by
  obtain ⟨r, hr, ok⟩ := hc.ex
  exact (pe_callB hr hg hm hv ha hn hdb he hpl).im fun _ _ _ h => lcb ok h
theorem VwL.one {F H : Hp} {d : D} {xs : List V} (h : VwL F H [d] xs) : ∃ x, xs = [x] ∧ Vw F H d x := by
  obtain ⟨l, h⟩ := h
  match xs, l with
  | [x], _ =>
    obtain ⟨y, e, w⟩ := h 0 d rfl
    cases e
    exact ⟨x, rfl, w⟩
theorem VwL.two {F H : Hp} {d e : D} {xs : List V} (h : VwL F H [d, e] xs) : ∃ x y, xs = [x, y] ∧ Vw F H d x ∧ Vw F H e y := by
  obtain ⟨l, h⟩ := h
  match xs, l with
  | [x, y], _ =>
    obtain ⟨_, e1, w1⟩ := h 0 d rfl
    obtain ⟨_, e2, w2⟩ := h 1 e rfl
    cases e1
    cases e2
    exact ⟨x, y, rfl, w1, w2⟩
theorem q_callTy {id : String} {x : Str} {p : Pos} (hc : ClS X (.type id) gc) (hg : Gl X x) (hm : X.mg x = none) (hv : bootBuiltins x = some (.type id)) (ha : QA X E (e :: es) n ws) (hn : x ≠ "__name__" := by decide) (hdb : (x == ("__debug__" : Str)) = false := by decide)
    (he : starEach (e :: es) X.env = (false, eval e X.env) :: starEach es X.env := by rfl) (hpl : (backTo pos (starEach es X.env)).any (·.1) = false := by rfl) : QE X E (.Call (.Name x p) (e :: es) [] pos) (wCB gc ws) := by
  obtain ⟨r, hr, ok⟩ := hc.ex
  exact (pe_callTy hr hg hm hv ha hn hdb he hpl).im fun _ _ _ h => lcb ok h
end
end Pu

/-! statements over plain data -/
namespace Pu
open PySem L2 Ow
structure PEnds (α : Type) where
  nx : PSt α → Prop
  rt : SV → α → Prop
  bk : PSt α → Prop := fun _ => False
  ct : PSt α → Prop := fun _ => False
abbrev WS (α : Type) := PEnds α → PSt α → Prop
abbrev WG (α : Type) := D → PSt α → (PSt α → Prop) → Prop
abbrev WI (α : Type) := PSt α → (List D → PSt α → Prop) → Prop
variable {α : Type}
def RvOk (E : En α) (hk : Hd) (m : α) (r : SV) (v : V) (F H : Hp) : Prop := match r with
  | .fz d => Rp F d v
  | .ow d => ∃ a, v = .ref a ∧ Oc F H d a ∧ F a = none ∧ ¬ E.R.S m a ∧ E.Fr0 a ∧ ∀ p ∈ hk, p.1 ≠ a
structure EndsOk (E : En α) (hk : Hd) (F : Hp) (Dp : PEnds α) (D : Ends) : Prop where
  nx : ∀ ρ' F' H' oa' σ', Dp.nx ρ' → Same F F' → Ok E hk ρ' F' H' oa' σ' → D.nx σ' H'
  rt : ∀ r m' v F' H', Dp.rt r m' → Same F F' → Ok0 E hk m' F' H' → RvOk E hk m' r v F' H' → D.rt v H'
  bk : ∀ ρ' F' H' oa' σ', Dp.bk ρ' → Same F F' → Ok E hk ρ' F' H' oa' σ' → D.bk σ' H'
  ct : ∀ ρ' F' H' oa' σ', Dp.ct ρ' → Same F F' → Ok E hk ρ' F' H' oa' σ' → D.ct σ' H'
theorem EndsOk.mono {E : En α} {hk : Hd} {F F' : Hp} {Dp : PEnds α} {D : Ends} (h : EndsOk E hk F Dp D) (s : Same F F') : EndsOk E hk F' Dp D :=
  ⟨fun _ _ _ _ _ q s' o => h.nx _ _ _ _ _ q (s.trans s') o, fun _ _ _ _ _ q s' o => h.rt _ _ _ _ _ q (s.trans s') o, fun _ _ _ _ _ q s' o => h.bk _ _ _ _ _ q (s.trans s') o, fun _ _ _ _ _ q s' o => h.ct _ _ _ _ _ q (s.trans s') o⟩
def lS (E : En α) (w : WS α) : TS := fun D σ H => ∃ hk ρ F oa Dp, Ok E hk ρ F H oa σ ∧ w Dp ρ ∧ EndsOk E hk F Dp D
abbrev QS (X : Cx) (E : En α) (st : Stmt) (w : WS α) : Prop := PS X st (lS E w)
abbrev QSs (X : Cx) (E : En α) (st : List Stmt) (w : WS α) : Prop := PSs X st (lS E w)
/-! ### blocks -/
def wNext : WS α := fun D ρ => D.nx ρ
/-- b tells no more of a slot than a: forgotten, or an own container frozen -/
def FrzS (a : Option SV) : Option SV → Prop
  | none => True
  | some (.fz d) => a = some (.fz d) ∨ a = some (.ow d)
  | some (.ow d) => a = some (.ow d)
def FrzL : List (Option SV) → List (Option SV) → Prop
  | [], [] => True
  | a :: l, b :: m => FrzS a b ∧ FrzL l m
  | _, _ => False
def Frz (ρ ρ' : PSt α) : Prop := ρ'.g = ρ.g ∧ FrzL ρ.sl ρ'.sl
theorem FrzS.refl : ∀ a : Option SV, FrzS a a
  | none => trivial
  | some (.fz _) => .inl rfl
  | some (.ow _) => rfl
theorem FrzL.refl : ∀ l : List (Option SV), FrzL l l
  | [] => trivial
  | a :: l => ⟨FrzS.refl a, FrzL.refl l⟩
theorem FrzS.non {a : Option SV} : FrzS a none := trivial
theorem FrzS.fzo {d : D} : FrzS (some (.ow d)) (some (.fz d)) := .inr rfl
theorem FrzL.cons {a b : Option SV} {l m : List (Option SV)} (h1 : FrzS a b) (h2 : FrzL l m) : FrzL (a :: l) (b :: m) := ⟨h1, h2⟩
theorem Frz.refl (ρ : PSt α) : Frz ρ ρ := ⟨rfl, FrzL.refl _⟩
theorem FrzL.len : ∀ {l m : List (Option SV)}, FrzL l m → m.length = l.length
  | [], [], _ => rfl
  | a :: l, b :: m, h => by simp [FrzL.len h.2]
theorem FrzL.at_ : ∀ {l m : List (Option SV)} {i : Nat} {b : Option SV}, FrzL l m → m[i]? = some b → ∃ a, l[i]? = some a ∧ FrzS a b
  | [], [], _, _, _, e => by simp at e
  | a :: l, b :: m, 0, c, h, e => by
    have : b = c := by simpa using e
    subst this
    exact ⟨a, rfl, h.1⟩
  | a :: l, b :: m, i + 1, c, h, e => by
    obtain ⟨x, e1, e2⟩ := FrzL.at_ (i := i) h.2 (by simpa using e)
    exact ⟨x, by simpa using e1, e2⟩
def wSeq (t u : WS α) : WS α := fun D ρ => t { D with nx := fun ρ' => ∃ ρ'', Frz ρ' ρ'' ∧ u D ρ'' } ρ
def wBreak : WS α := fun D ρ => D.bk ρ
def wCont : WS α := fun D ρ => D.ct ρ
def wDrop (we : WE α) : WS α := fun D ρ => we ρ fun _ ρ1 => D.nx ρ1
def retT (t : Tv) (ρ : PSt α) (k : SV → α → Prop) : Prop := match t with
  | .fz d => k (.fz d) ρ.g
  | .ow d => k (.ow d) ρ.g
  | .br i => slK ρ.sl[i]? (fun d => k (.fz d) ρ.g) (fun d => k (.ow d) ρ.g)
theorem retT_fz {d : D} {ρ : PSt α} {k : SV → α → Prop} : retT (.fz d) ρ k = k (.fz d) ρ.g := rfl
theorem retT_ow {d : D} {ρ : PSt α} {k : SV → α → Prop} : retT (.ow d) ρ k = k (.ow d) ρ.g := rfl
theorem retT_br {i : Nat} {ρ : PSt α} {k : SV → α → Prop} : retT (.br i) ρ k = slK ρ.sl[i]? (fun d => k (.fz d) ρ.g) (fun d => k (.ow d) ρ.g) := rfl
def wRet (we : WE α) : WS α := fun D ρ => we ρ fun t ρ1 => retT t ρ1 D.rt
def wRetN : WS α := fun D ρ => D.rt (.fz .non) ρ.g
def wIf (wt : WT α) (a b : WS α) : WS α := fun D ρ => wt ρ fun c ρ1 => if c = true then a D ρ1 else b D ρ1
section
variable {E : En α} {hk : Hd} {ρ ρ' : PSt α} {F H : Hp} {oa : Nat → Option Addr} {σ : St}
/-- the first n slots frozen or forgotten -/
theorem Ok.frzN (o : Ok E hk ρ F H oa σ) {m : List (Option SV)} (f : FrzL ρ.sl m) : ∀ n, ∃ F' oa', Same F F' ∧ Ok E hk ⟨m.take n ++ ρ.sl.drop n, ρ.g⟩ F' H oa' σ
  | 0 => ⟨F, oa, Same.refl _, by simpa using o⟩
  | n + 1 => by
    obtain ⟨F1, oa1, s1, o1⟩ := o.frzN f n
    have lm := f.len
    by_cases hn : n < m.length
    · have hn2 : n < ρ.sl.length := by omega
      obtain ⟨a, ea, fa⟩ := f.at_ (List.getElem?_eq_getElem hn)
      have ed : ρ.sl.drop n = a :: ρ.sl.drop (n + 1) := by
        rw [List.drop_eq_getElem_cons hn2]
        rw [List.getElem?_eq_getElem hn2] at ea
        rw [Option.some.inj ea]
      have et : m.take (n + 1) = m.take n ++ [m[n]] := by rw [List.take_add_one, List.getElem?_eq_getElem hn]; rfl
      have lt : (m.take n).length = n := by rw [List.length_take]; omega
      have set_ : ∀ b : Option SV, (m.take n ++ a :: ρ.sl.drop (n + 1)).set n b = m.take n ++ b :: ρ.sl.drop (n + 1) := fun b => by
        rw [List.set_append_right _ _ (by omega), lt, Nat.sub_self, List.set_cons_zero]
      have get_ : (m.take n ++ a :: ρ.sl.drop (n + 1))[n]? = some a := by
        rw [List.getElem?_append_right (by omega), lt, Nat.sub_self]
        rfl
      rw [ed] at o1
      rw [et, List.append_assoc]
      generalize m[n] = b at fa
      cases b with
      | none =>
        have z := o1.clr n
        dsimp only at z
        rw [set_] at z
        exact ⟨F1, off oa1 n, s1, z⟩
      | some sv =>
        cases sv with
        | fz d =>
          rcases fa with rfl | rfl
          · exact ⟨F1, oa1, s1, o1⟩
          · obtain ⟨v, F2, oa2, _, s2, o2, _⟩ := o1.fzB get_
            refine ⟨F2, oa2, s1.trans s2, ?_⟩
            unfold PSt.put at o2
            rw [set_] at o2
            exact o2
        | ow d =>
          have fa : a = some (.ow d) := fa
          subst fa
          exact ⟨F1, oa1, s1, o1⟩
    · refine ⟨F1, oa1, s1, ?_⟩
      rw [List.take_of_length_le (by omega), List.drop_eq_nil_of_le (by omega)] at o1 ⊢
      exact o1
theorem Ok.frz (o : Ok E hk ρ F H oa σ) (f : Frz ρ ρ') : ∃ F' oa', Same F F' ∧ Ok E hk ρ' F' H oa' σ := by
  obtain ⟨F1, oa1, s1, o1⟩ := o.frzN f.2 ρ'.sl.length
  have l := f.2.len
  rw [List.take_length, List.drop_eq_nil_of_le (by omega), List.append_nil, ← f.1] at o1
  exact ⟨F1, oa1, s1, o1⟩
end
section
variable {X : Cx} {E : En α} {st : Stmt} {rest sts : List Stmt} {w u : WS α} {a b c e tg : Expr} {es : List Expr} {wa wb wc we : WE α} {wt : WT α} {ws : WA α} {pos : Pos} {n : Nat}
theorem lnext {D : Ends} {σ : St} {H : Hp} (h : lS E wNext D σ H) : tNext D σ H := by
  obtain ⟨hk, ρ, F, oa, Dp, o, hw, en⟩ := h
  exact en.nx ρ F H oa σ hw (Same.refl _) o
theorem qs_nil : QSs X E [] wNext := pss_nil.im fun _ _ _ h => lnext h
theorem qs_cons (h1 : QS X E st w) (h2 : QSs X E rest u) : QSs X E (st :: rest) (wSeq w u) := (pss_cons h1 h2).im fun D σ H h => by
  obtain ⟨hk, ρ, F, oa, Dp, o, hw, en⟩ := h
  refine ⟨hk, ρ, F, oa, _, o, hw, ⟨fun ρ' F' H' oa' σ' q s o' => ?_, en.rt, en.bk, en.ct⟩⟩
  obtain ⟨ρ2, fz, q⟩ := q
  obtain ⟨F2, oa2, s2, o2⟩ := o'.frz fz
  exact ⟨hk, ρ2, F2, oa2, Dp, o2, q, en.mono (s.trans s2)⟩
theorem qs_one (h1 : QS X E st w) : QSs X E [st] w := pss_one h1
theorem qs_pass : QS X E (.Pass pos) wNext := ps_pass.im fun _ _ _ h => lnext h
theorem qs_break : QS X E (.Break pos) wBreak := ps_break.im fun D σ H h => by
  obtain ⟨hk, ρ, F, oa, Dp, o, hw, en⟩ := h
  exact en.bk ρ F H oa σ hw (Same.refl _) o
theorem qs_continue : QS X E (.Continue pos) wCont := ps_continue.im fun D σ H h => by
  obtain ⟨hk, ρ, F, oa, Dp, o, hw, en⟩ := h
  exact en.ct ρ F H oa σ hw (Same.refl _) o
theorem qs_doc {x j pos pos'} : QS X E (.Expr (.Constant (.str x) j pos) pos') wNext := ps_doc.im fun _ _ _ h => lnext h
theorem qs_expr (he : QE X E e we) (hs : swapsWith e none pos.line X.env = pure false := by rfl) : QS X E (.Expr e pos) (wDrop we) := (ps_expr he hs).im fun D σ H h => by
  obtain ⟨hk, ρ, F, oa, Dp, o, hw, en⟩ := h
  exact ⟨hk, ρ, F, oa, _, o, hw, fun t ρ1 v F1 H1 oa1 q1 s1 o1 tv => en.nx ρ1 F1 H1 oa1 σ q1 s1 o1⟩
theorem ret_ok {hk : Hd} {ρ : PSt α} {t : Tv} {v : V} {F H : Hp} {oa : Nat → Option Addr} {σ : St} {k : SV → α → Prop} (o : Ok E hk ρ F H oa σ) (h : TvOk E hk ρ t v F H oa σ) (q : retT t ρ k) : ∃ r, RvOk E hk ρ.g r v F H ∧ k r ρ.g := by
  cases t with
  | fz d => exact ⟨.fz d, h, q⟩
  | ow d =>
    obtain ⟨a, e, w, f, ns, fr, no, nk⟩ := h
    exact ⟨.ow d, ⟨a, e, w, f, ns, fr, nk⟩, q⟩
  | br i =>
    dsimp only [retT, slK] at q
    have h : σ[i]? = some (some v) := h
    split at q
    · rename_i d e
      obtain ⟨u, eu, r⟩ := o.sl i _ e
      rw [h] at eu
      cases eu
      exact ⟨.fz d, r, q⟩
    · rename_i d e
      obtain ⟨u, eu, r⟩ := o.sl i _ e
      rw [h] at eu
      cases eu
      obtain ⟨a, ea, e2, w⟩ := r
      obtain ⟨h1, h2, h3, h4, h5, h6⟩ := o.own i a ea
      exact ⟨.ow d, ⟨a, e2, w, h2, h3, h4, h5⟩, q⟩
    · exact q.elim
theorem qs_ret (he : QE X E e we) : QS X E (.Return (some e) pos) (wRet we) := (ps_ret he).im fun D σ H h => by
  obtain ⟨hk, ρ, F, oa, Dp, o, hw, en⟩ := h
  refine ⟨hk, ρ, F, oa, _, o, hw, fun t ρ1 v F1 H1 oa1 q1 s1 o1 tv => ?_⟩
  obtain ⟨r, rv, q⟩ := ret_ok o1 tv q1
  exact en.rt r _ v F1 H1 q s1 o1.o rv
theorem qs_retN : QS X E (.Return none pos) wRetN := ps_retN.im fun D σ H h => by
  obtain ⟨hk, ρ, F, oa, Dp, o, hw, en⟩ := h
  exact en.rt _ _ .non F H hw (Same.refl _) o.o (by show Rp F .non .non; unfold Rp; rfl)
theorem qs_if {a b : List Stmt} (hc : QT X E c wt) (ha : QSs X E a w) (hb : QSs X E b u) : QS X E (.If c a b pos) (wIf wt w u) := (ps_if hc ha hb).im fun D σ H h => by
  obtain ⟨hk, ρ, F, oa, Dp, o, hw, en⟩ := h
  refine ⟨hk, ρ, F, oa, _, o, hw, fun c ρ1 F1 H1 oa1 q1 s1 o1 => ?_⟩
  cases c with
  | true => exact iteT ⟨hk, ρ1, F1, oa1, Dp, o1, q1, en.mono s1⟩
  | false => exact iteF ⟨hk, ρ1, F1, oa1, Dp, o1, q1, en.mono s1⟩
/-! ### names are set -/
/-- a temporary goes into a slot -/
def stS (t : Tv) (i : Nat) (ρ : PSt α) (k : PSt α → Prop) : Prop := match t with
  | .fz d => k (ρ.put i (.fz d))
  | .ow d => k (ρ.put i (.ow d))
  | .br j => fzT (.br j) ρ fun d ρ1 => k (ρ1.put i (.fz d))
theorem stS_fz {d : D} {i : Nat} {ρ : PSt α} {k : PSt α → Prop} : stS (.fz d) i ρ k = k (ρ.put i (.fz d)) := rfl
theorem stS_ow {d : D} {i : Nat} {ρ : PSt α} {k : PSt α → Prop} : stS (.ow d) i ρ k = k (ρ.put i (.ow d)) := rfl
theorem stS_br {j i : Nat} {ρ : PSt α} {k : PSt α → Prop} : stS (.br j) i ρ k = fzT (.br j) ρ fun d ρ1 => k (ρ1.put i (.fz d)) := rfl
theorem setF' {hk : Hd} {ρ : PSt α} {F H : Hp} {oa : Nat → Option Addr} {σ : St} (o : Ok E hk ρ F H oa σ) {i : Nat} {d : D} {v : V} (r : Rp F d v) : ∃ oa', Ok E hk (ρ.put i (.fz d)) F H oa' (σ.set i (some v)) ∧ ∀ j b, oa' j = some b → oa j = some b := by
  by_cases hi : i < σ.length
  · exact ⟨_, o.setF hi r, fun j b h => (off_some h).2⟩
  · refine ⟨oa, ?_, fun j b h => h⟩
    rw [List.set_eq_of_length_le (by omega)]
    have : ρ.put i (.fz d) = ρ := by
      unfold PSt.put
      rw [List.set_eq_of_length_le (by have := o.len; omega)]
    rw [this]
    exact o
theorem setO' {hk : Hd} {ρ : PSt α} {F H : Hp} {oa : Nat → Option Addr} {σ : St} (o : Ok E hk ρ F H oa σ) {i : Nat} {d : D} {v : V} (t : TvOk E hk ρ (.ow d) v F H oa σ) :
    ∃ oa', Ok E hk (ρ.put i (.ow d)) F H oa' (σ.set i (some v)) ∧ ∀ j b, oa' j = some b → oa j = some b ∨ v = .ref b := by
  by_cases hi : i < σ.length
  · obtain ⟨a, e, w, f, ns, fr, no, nk⟩ := t
    obtain ⟨oa', o'⟩ := o.setO hi (d := d) (v := v) ⟨a, e, w, f, ns, fr, no, nk⟩
    refine ⟨fun j => if j = i then some a else off oa i j, ?_, fun j b h => ?_⟩
    · have c := o.clr i
      refine ⟨o'.o, o'.len, fun j s q => ?_, fun j b h => ?_, fun j k b e1 e2 => ?_⟩
      · obtain ⟨x, ex, r⟩ := o'.sl j s q
        refine ⟨x, ex, ?_⟩
        unfold PSt.put at q
        by_cases hj : i = j
        · subst hj
          rw [List.getElem?_set_self (by rw [o.len]; exact hi)] at q
          cases q
          rw [List.getElem?_set_self hi] at ex
          cases ex
          exact ⟨a, if_pos rfl, e, w⟩
        · rw [List.getElem?_set_ne hj] at q
          obtain ⟨y, ey, r'⟩ := c.sl j s (by rw [List.getElem?_set_ne hj]; exact q)
          rw [List.getElem?_set_ne hj, ey] at ex
          cases ex
          cases s with
          | fz d => exact r'
          | ow d =>
            obtain ⟨b, eb, r'⟩ := r'
            exact ⟨b, by show (if j = i then some a else off oa i j) = some b; rw [if_neg fun z => hj z.symm]; exact eb, r'⟩
      · have h : (if j = i then some a else off oa i j) = some b := h
        split at h
        · rename_i q
          cases h
          obtain ⟨x, ex, _⟩ := w.there
          exact ⟨by rw [ex]; exact (fun z => by cases z), f, ns, fr, nk, by rw [List.length_set, q]; exact hi⟩
        · obtain ⟨h1, h2, h3, h4, h5, h6⟩ := c.own j b h
          exact ⟨h1, h2, h3, h4, h5, by rw [List.length_set]; exact h6⟩
      · have e1 : (if j = i then some a else off oa i j) = some b := e1
        have e2 : (if k = i then some a else off oa i k) = some b := e2
        split at e1 <;> split at e2
        · rename_i q1 q2
          rw [q1, q2]
        · cases e1
          exact absurd (off_some e2).2 (no k)
        · cases e2
          exact absurd (off_some e1).2 (no j)
        · exact c.inj j k b e1 e2
    · have h : (if j = i then some a else off oa i j) = some b := h
      split at h
      · cases h
        exact .inr e
      · exact .inl (off_some h).2
  · refine ⟨oa, ?_, fun j b h => .inl h⟩
    rw [List.set_eq_of_length_le (by omega)]
    have : ρ.put i (.ow d) = ρ := by
      unfold PSt.put
      rw [List.set_eq_of_length_le (by have := o.len; omega)]
    rw [this]
    exact o
theorem stS_ok {hk : Hd} {ρ : PSt α} {t : Tv} {v : V} {F H : Hp} {oa : Nat → Option Addr} {σ : St} {i : Nat} {k : PSt α → Prop} (o : Ok E hk ρ F H oa σ) (h : TvOk E hk ρ t v F H oa σ) (q : stS t i ρ k) :
    ∃ ρ' F' oa', Same F F' ∧ Ok E hk ρ' F' H oa' (σ.set i (some v)) ∧ k ρ' := by
  cases t with
  | fz d =>
    obtain ⟨oa', o', _⟩ := setF' o (i := i) h
    exact ⟨_, F, oa', Same.refl _, o', q⟩
  | ow d =>
    obtain ⟨oa', o', _⟩ := setO' o (i := i) h
    exact ⟨_, F, oa', Same.refl _, o', q⟩
  | br j =>
    dsimp only [stS] at q
    obtain ⟨d, ρ1, F1, oa1, s1, o1, r1, q1⟩ := fz_ok o h q
    obtain ⟨oa', o', _⟩ := setF' o1 (i := i) r1
    exact ⟨_, F1, oa', s1, o', q1⟩
def wSet (i : Nat) (we : WE α) : WS α := fun D ρ => we ρ fun t ρ1 => stS t i ρ1 D.nx
theorem lset {i : Nat} {t : TE} (ht : ∀ σ H Q, lE E we σ H Q → t σ H Q) {D : Ends} {σ : St} {H : Hp} (h : lS E (wSet i we) D σ H) : tAsg t (gName i) D σ H := by
  obtain ⟨hk, ρ, F, oa, Dp, o, hw, en⟩ := h
  refine ht _ _ _ ⟨hk, ρ, F, oa, _, o, hw, fun t ρ1 v F1 H1 oa1 q1 s1 o1 tv => ?_⟩
  obtain ⟨ρ', F', oa', s', o', q⟩ := stS_ok o1 tv q1
  exact en.nx ρ' F' H1 oa' _ q (s1.trans s') o'
theorem qs_set {i : Nat} {x : Str} {pos' : Pos} (hN : X.N.Nodup) (hi : X.N[i]? = some x) (hx : Loc X.env.scope x) (he : QE X E e we) (hs : swapsWith e (some (.Name x pos')) pos.line X.env = pure false := by rfl)
    (hf : X.fn x = true ∨ X.env.scope.names.lookup x = some .local := by first | exact .inl rfl | exact .inr rfl | assumption) : QS X E (.Assign [.Name x pos'] e pos) (wSet i we) :=
  (ps_set hN hi hx he hs hf).im fun _ _ _ h => lset (fun _ _ _ h => h) h
/-! ### several at once: a, b = x, y -/
/-- what a slot holds is frozen, a new container stays own -/
def svT (t : Tv) (ρ : PSt α) (k : SV → PSt α → Prop) : Prop := match t with
  | .fz d => k (.fz d) ρ
  | .ow d => k (.ow d) ρ
  | .br i => fzT (.br i) ρ fun d ρ1 => k (.fz d) ρ1
theorem svT_fz {d : D} {ρ : PSt α} {k : SV → PSt α → Prop} : svT (.fz d) ρ k = k (.fz d) ρ := rfl
theorem svT_ow {d : D} {ρ : PSt α} {k : SV → PSt α → Prop} : svT (.ow d) ρ k = k (.ow d) ρ := rfl
theorem svT_br {i : Nat} {ρ : PSt α} {k : SV → PSt α → Prop} : svT (.br i) ρ k = fzT (.br i) ρ fun d ρ1 => k (.fz d) ρ1 := rfl
def evs : List (WE α) → PSt α → (List SV → PSt α → Prop) → Prop
  | [], ρ, k => k [] ρ
  | w :: ws, ρ, k => w ρ fun t ρ1 => svT t ρ1 fun s ρ2 => evs ws ρ2 fun ss ρ3 => k (s :: ss) ρ3
def tEvs (E : En α) : List (WE α) → TA
  | [] => tNil
  | w :: ws => tCons (lE E w) (tEvs E ws)
abbrev QAo (X : Cx) (E : En α) (es : List Expr) (ws : List (WE α)) : Prop := PA X es (tEvs E ws)
theorem qo_nil : QAo X E [] [] := pa_nil
theorem qo_cons {wl : List (WE α)} (ha : QE X E e we) (hr : QAo X E es wl) (hs : starEach (e :: es) X.env = (false, eval e X.env) :: starEach es X.env := by rfl) : QAo X E (e :: es) (we :: wl) := pa_cons ha hr hs
def svA : SV → V → Option Addr
  | .ow _, .ref a => some a
  | _, _ => none
/-- new containers that stand apart -/
def SvoOk (E : En α) (hk : Hd) (ρ : PSt α) : List SV → List V → Hp → Hp → (Nat → Option Addr) → St → Prop
  | [], vs, _, _, _, _ => vs = []
  | t :: ts, vs, F, H, oa, σ => ∃ v r, vs = v :: r ∧ TvOk E hk ρ t.tv v F H oa σ ∧ (∀ a, svA t v = some a → ∀ p ∈ ts.zip r, svA p.1 p.2 ≠ some a) ∧ SvoOk E hk ρ ts r F H oa σ
theorem Oc.nofrz {F H : Hp} {d : D} {a : Addr} (h : Oc F H d a) : ∃ o, H a = some o ∧ ∀ ob u, o ≠ .frz ob u := by
  cases d with
  | lst l => obtain ⟨vs, q, _⟩ := h; exact ⟨_, q, fun _ _ z => by cases z⟩
  | dct ks l => obtain ⟨vs, q, _⟩ := h; exact ⟨_, q, fun _ _ z => by cases z⟩
  | dcT ks l => obtain ⟨vs, q, _⟩ := h; exact ⟨_, q, fun _ _ z => by cases z⟩
  | obj C ks l => obtain ⟨dx, vs, q, _⟩ := h; exact ⟨_, q, fun _ _ z => by cases z⟩
  | _ => exact h.elim
/-- a new container is held -/
theorem Ok.hold {hk : Hd} {ρ : PSt α} {F H : Hp} {oa : Nat → Option Addr} {σ : St} (o : Ok E hk ρ F H oa σ) {a : Addr} {u : HO} (e : H a = some u) (f : F a = none) (ns : ¬ E.R.S ρ.g a) (fr : E.Fr0 a) (no : ∀ i, oa i ≠ some a) (nk : ∀ p ∈ hk, p.1 ≠ a) (nf : ∀ ob x, u ≠ .frz ob x) :
    Ok E ((a, u) :: hk) ρ F H oa σ := by
  refine ⟨⟨o.o.sub, o.o.reg, o.o.rF, o.o.same, o.o.new, fun b x s q => ?_, o.o.sE, fun p hp => ?_, fun t p hp => ?_⟩, o.len, o.sl, fun i b q => ?_, o.inj⟩
  · rcases o.o.kp b x s q with z | ⟨ob, z⟩
    · exact .inl z
    · exact .inr ⟨ob, List.mem_cons_of_mem _ z⟩
  · rcases List.mem_cons.mp hp with rfl | hp
    · exact ⟨e, ns, .inr ⟨f, fr⟩⟩
    · exact o.o.hd p hp
  · rcases List.mem_cons.mp hp with rfl | hp
    · exact nf
    · exact o.o.nl t p hp
  · obtain ⟨h1, h2, h3, h4, h5, h6⟩ := o.own i b q
    refine ⟨h1, h2, h3, h4, fun p hp => ?_, h6⟩
    rcases List.mem_cons.mp hp with rfl | hp
    · exact fun z => no i (by have z : a = b := z; rw [z]; exact q)
    · exact h5 p hp
theorem Ok.unhold {hk : Hd} {ρ : PSt α} {F H : Hp} {oa : Nat → Option Addr} {σ : St} {a : Addr} {u : HO} (o : Ok E ((a, u) :: hk) ρ F H oa σ) (nf : ∀ ob x, u ≠ .frz ob x) :
    Ok E hk ρ F H oa σ ∧ H a = some u ∧ F a = none ∧ ¬ E.R.S ρ.g a ∧ E.Fr0 a ∧ ∀ i, oa i ≠ some a := by
  obtain ⟨h1, h2, h3⟩ := o.o.hd (a, u) List.mem_cons_self
  refine ⟨⟨⟨o.o.sub, o.o.reg, o.o.rF, o.o.same, o.o.new, fun b x s q => ?_, o.o.sE, fun p hp => o.o.hd p (List.mem_cons_of_mem _ hp), fun t p hp => o.o.nl t p (List.mem_cons_of_mem _ hp)⟩, o.len, o.sl, fun i b q => ?_, o.inj⟩, h1, ?_, h2, ?_, fun i q => (o.own i a q).2.2.2.2.1 (a, u) List.mem_cons_self rfl⟩
  · rcases o.o.kp b x s q with z | ⟨ob, z⟩
    · exact .inl z
    · rcases List.mem_cons.mp z with z | z
      · cases z
        exact absurd rfl (nf ob x)
      · exact .inr ⟨ob, z⟩
  · obtain ⟨h1, h2, h3, h4, h5, h6⟩ := o.own i b q
    exact ⟨h1, h2, h3, h4, fun p hp => h5 p (List.mem_cons_of_mem _ hp), h6⟩
  · rcases h3 with ⟨ob, x, z, _⟩ | ⟨z, _⟩
    · exact absurd z (nf ob x)
    · exact z
  · rcases h3 with ⟨ob, x, z, _⟩ | ⟨_, z⟩
    · exact absurd z (nf ob x)
    · exact z
theorem svo_ne {hk : Hd} {ρ : PSt α} {F H : Hp} {oa : Nat → Option Addr} {σ : St} : ∀ {ts : List SV} {vs : List V} {a : Addr} {u : HO}, SvoOk E ((a, u) :: hk) ρ ts vs F H oa σ → ∀ p ∈ ts.zip vs, svA p.1 p.2 ≠ some a
  | [], vs, _, _, h => fun p hp => by simp at hp
  | t :: ts, vs, a, u, h => fun p hp => by
    obtain ⟨v, r, e, h1, h2, h3⟩ := h
    subst e
    rcases List.mem_cons.mp hp with rfl | hp
    · cases t with
      | ow d =>
        obtain ⟨b, e, w, f, ns, fr, no, nk⟩ := h1
        subst e
        exact fun z => nk (a, u) List.mem_cons_self (Option.some.inj z).symm
      | fz d => cases v <;> exact fun z => by cases z
    · exact svo_ne h3 p hp
theorem svo_weak {hk : Hd} {ρ : PSt α} {F H : Hp} {oa : Nat → Option Addr} {σ : St} : ∀ {ts : List SV} {vs : List V} {a : Addr} {u : HO}, SvoOk E ((a, u) :: hk) ρ ts vs F H oa σ → SvoOk E hk ρ ts vs F H oa σ
  | [], vs, _, _, h => h
  | t :: ts, vs, a, u, h => by
    obtain ⟨v, r, e, h1, h2, h3⟩ := h
    refine ⟨v, r, e, ?_, h2, svo_weak h3⟩
    cases t with
    | ow d =>
      obtain ⟨b, e, w, f, ns, fr, no, nk⟩ := h1
      exact ⟨b, e, w, f, ns, fr, no, fun p hp => nk p (List.mem_cons_of_mem _ hp)⟩
    | fz d => exact h1
theorem svT_ok {hk : Hd} {ρ : PSt α} {t : Tv} {v : V} {F H : Hp} {oa : Nat → Option Addr} {σ : St} {k : SV → PSt α → Prop} (o : Ok E hk ρ F H oa σ) (h : TvOk E hk ρ t v F H oa σ) (q : svT t ρ k) :
    ∃ s ρ' F' oa', Same F F' ∧ Ok E hk ρ' F' H oa' σ ∧ TvOk E hk ρ' s.tv v F' H oa' σ ∧ k s ρ' := by
  cases t with
  | fz d => exact ⟨.fz d, ρ, F, oa, Same.refl _, o, h, q⟩
  | ow d => exact ⟨.ow d, ρ, F, oa, Same.refl _, o, h, q⟩
  | br j =>
    dsimp only [svT] at q
    obtain ⟨d, ρ1, F1, oa1, s1, o1, r1, q1⟩ := fz_ok o h q
    exact ⟨.fz d, ρ1, F1, oa1, s1, o1, r1, q1⟩
theorem levs {σ : St} : ∀ {ws : List (WE α)} {hk : Hd} {ρ : PSt α} {F H : Hp} {oa : Nat → Option Addr} {k : List SV → PSt α → Prop} {Q : List V → Hp → Prop}, Ok E hk ρ F H oa σ → evs ws ρ k →
    (∀ ts ρ' vs F' H' oa', k ts ρ' → Same F F' → Ok E hk ρ' F' H' oa' σ → SvoOk E hk ρ' ts vs F' H' oa' σ → ts.length = ws.length → vs.length = ws.length → Q vs H') → tEvs E ws σ H Q
  | [], hk, ρ, F, H, oa, k, Q, o, h, post => post [] ρ [] F H oa h (Same.refl _) o rfl rfl rfl
  | w :: ws, hk, ρ, F, H, oa, k, Q, o, h, post => by
    refine ⟨hk, ρ, F, oa, _, o, h, fun t0 ρ0 v1 F0 H1 oa0 q0 s0 o0 tv0 => ?_⟩
    obtain ⟨t1, ρ1, F1, oa1, s1', o1, tv1, q1⟩ := svT_ok o0 tv0 q0
    have s1 := s0.trans s1'
    cases t1 with
    | fz d =>
      refine levs o1 q1 fun ts ρ2 vs F2 H2 oa2 q2 s2 o2 tv2 l2 l3 => ?_
      exact post _ ρ2 _ F2 H2 oa2 q2 (s1.trans s2) o2 ⟨v1, vs, rfl, Rp.mono s2 tv1, (fun a z => by cases v1 <;> cases z), tv2⟩ (by simp [l2]) (by simp [l3])
    | ow d =>
      obtain ⟨a, e, w1, f, ns, fr, no, nk⟩ := tv1
      subst e
      obtain ⟨u, eu, nf⟩ := w1.nofrz
      have o1' := o1.hold eu f ns fr no nk nf
      refine levs o1' q1 fun ts ρ2 vs F2 H2 oa2 q2 s2 o2 tv2 l2 l3 => ?_
      obtain ⟨o3, e3, f3, ns3, fr3, no3⟩ := o2.unhold nf
      refine post _ ρ2 _ F2 H2 oa2 q2 (s1.trans s2) o3 ⟨_, vs, rfl, ⟨a, rfl, w1.mono s2 fun y z => ?_, f3, ns3, fr3, no3, nk⟩, fun b z => ?_, svo_weak tv2⟩ (by simp [l2]) (by simp [l3])
      · rw [eu] at z
        cases z
        exact e3
      · cases z
        exact svo_ne tv2
def PSt.puts (ρ : PSt α) : List Nat → List SV → PSt α
  | i :: is, s :: ss => (ρ.put i s).puts is ss
  | _, _ => ρ
def sets (σ : St) : List Nat → List V → St
  | i :: is, v :: vs => sets (σ.set i (some v)) is vs
  | _, _ => σ
theorem svo_move {hk : Hd} {ρ ρ' : PSt α} {F H : Hp} {oa oa' : Nat → Option Addr} {σ σ' : St} (g : ρ'.g = ρ.g) : ∀ {ts : List SV} {vs : List V}, SvoOk E hk ρ ts vs F H oa σ → (∀ p ∈ ts.zip vs, ∀ a, svA p.1 p.2 = some a → ∀ j, oa' j ≠ some a) → SvoOk E hk ρ' ts vs F H oa' σ'
  | [], vs, h, _ => h
  | t :: ts, vs, h, na => by
    obtain ⟨v, r, e, h1, h2, h3⟩ := h
    subst e
    refine ⟨v, r, rfl, ?_, h2, svo_move g h3 fun p hp => na p (List.mem_cons_of_mem _ hp)⟩
    cases t with
    | ow d =>
      obtain ⟨b, e, w, f, ns, fr, no, nk⟩ := h1
      subst e
      exact ⟨b, rfl, w, f, by rw [g]; exact ns, fr, na (.ow d, .ref b) List.mem_cons_self b rfl, nk⟩
    | fz d => exact h1
theorem svo_oa {hk : Hd} {ρ : PSt α} {F H : Hp} {oa : Nat → Option Addr} {σ : St} : ∀ {ts : List SV} {vs : List V}, SvoOk E hk ρ ts vs F H oa σ → ∀ p ∈ ts.zip vs, ∀ a, svA p.1 p.2 = some a → ∀ j, oa j ≠ some a
  | [], vs, h, p, hp => by simp at hp
  | t :: ts, vs, h, p, hp => fun a z => by
    obtain ⟨v, r, e, h1, h2, h3⟩ := h
    subst e
    rcases List.mem_cons.mp hp with rfl | hp
    · cases t with
      | ow d =>
        obtain ⟨b, e, w, f, ns, fr, no, nk⟩ := h1
        subst e
        cases z
        exact no
      | fz d => cases v <;> cases z
    · exact svo_oa h3 p hp a z
theorem puts_ok {hk : Hd} {F H : Hp} : ∀ {is : List Nat} {ts : List SV} {vs : List V} {ρ : PSt α} {oa : Nat → Option Addr} {σ : St}, Ok E hk ρ F H oa σ → SvoOk E hk ρ ts vs F H oa σ → ∃ oa', Ok E hk (ρ.puts is ts) F H oa' (sets σ is vs)
  | [], ts, vs, ρ, oa, σ, o, h => ⟨oa, o⟩
  | i :: is, [], vs, ρ, oa, σ, o, h => by
    have h : vs = [] := h
    subst h
    exact ⟨oa, o⟩
  | i :: is, t :: ts, vs, ρ, oa, σ, o, h => by
    obtain ⟨v, r, e, h1, h2, h3⟩ := h
    subst e
    show ∃ oa', Ok E hk ((ρ.put i t).puts is ts) F H oa' (sets (σ.set i (some v)) is r)
    cases t with
    | fz d =>
      obtain ⟨oa', o', k⟩ := setF' o (i := i) h1
      exact puts_ok o' (svo_move (ρ := ρ) (ρ' := ρ.put i _) rfl h3 fun p hp a z j q => svo_oa h3 p hp a z j (k j a q))
    | ow d =>
      obtain ⟨oa', o', k⟩ := setO' o (i := i) h1
      obtain ⟨b, e, _⟩ := h1
      subst e
      refine puts_ok o' (svo_move (ρ := ρ) (ρ' := ρ.put i _) rfl h3 fun p hp a z j q => ?_)
      rcases k j a q with y | y
      · exact svo_oa h3 p hp a z j y
      · cases y
        exact h2 b rfl p hp z
def wPar (is : List Nat) (ws : List (WE α)) : WS α := fun D ρ => evs ws ρ fun ss ρ1 => D.nx (ρ1.puts is ss)
theorem lpar {is : List Nat} {wl : List (WE α)} {D : Ends} {σ : St} {H : Hp} (h : lS E (wPar is wl) D σ H) : tEvs E wl σ H fun vs H1 => vs.length = wl.length ∧ D.nx (sets σ is vs) H1 := by
  obtain ⟨hk, ρ, F, oa, Dp, o, hw, en⟩ := h
  refine levs o hw fun ts ρ1 vs F1 H1 oa1 q1 s1 o1 tv1 l1 l2 => ⟨l2, ?_⟩
  obtain ⟨oa', o'⟩ := puts_ok (is := is) o1 tv1
  exact en.nx _ F1 H1 oa' _ q1 s1 o'
theorem evs_im {wl : List (WE α)} {σ : St} {H : Hp} {Q Q' : List V → Hp → Prop} (h : tEvs E wl σ H Q) (k : ∀ vs H, Q vs H → Q' vs H) : tEvs E wl σ H Q' := by
  induction wl generalizing H Q Q' with
  | nil => exact k _ _ h
  | cons w wl ih =>
    obtain ⟨hk, ρ, F, oa, Qp, o, hw, post⟩ := h
    exact ⟨hk, ρ, F, oa, Qp, o, hw, fun t ρ' v F' H' oa' q s o' tv => ih (post t ρ' v F' H' oa' q s o' tv) fun vs H q => k _ _ q⟩
theorem qs_par2 {i j : Nat} {x y : Str} {px py pt : Pos} {kt k2 pt2} (hc : X.calm = true) (hN : X.N.Nodup) (hi : X.N[i]? = some x) (hj : X.N[j]? = some y) (hij : i ≠ j)
    (hx : X.env.scope.names.lookup x = some .local) (hy : X.env.scope.names.lookup y = some .local) (ha : QAo X E [a, b] [wa, wb])
    (hw : swappedStores [.Tuple [.Name x px, .Name y py] kt pt] (.Tuple [a, b] k2 pt2) X.env = pure (some [x, y]))
    (hs : swapsWithSole [.Tuple [.Name x px, .Name y py] kt pt] (.Tuple [a, b] k2 pt2) pos.line X.env = pure false := by rfl) :
    QS X E (.Assign [.Tuple [.Name x px, .Name y py] kt pt] (.Tuple [a, b] k2 pt2) pos) (wPar [i, j] [wa, wb]) := (ps_par hc hN hi hj hij hx hy ha hw hs).im fun D σ H h => by
  refine evs_im (lpar h) fun vs H q => ?_
  obtain ⟨l, q⟩ := q
  match vs, l with
  | [v, w], _ => exact ⟨v, w, rfl, q⟩
theorem qs_par3 {i j l : Nat} {x y z : Str} {px py pz pt : Pos} {kt k2 pt2} (hc : X.calm = true) (hN : X.N.Nodup) (hi : X.N[i]? = some x) (hj : X.N[j]? = some y) (hl : X.N[l]? = some z) (hij : i ≠ j) (hil : i ≠ l) (hjl : j ≠ l)
    (hx : X.env.scope.names.lookup x = some .local) (hy : X.env.scope.names.lookup y = some .local) (hz : X.env.scope.names.lookup z = some .local) (ha : QAo X E [a, b, c] [wa, wb, wc])
    (hw : swappedStores [.Tuple [.Name x px, .Name y py, .Name z pz] kt pt] (.Tuple [a, b, c] k2 pt2) X.env = pure (some [x, y, z]))
    (hs : swapsWithSole [.Tuple [.Name x px, .Name y py, .Name z pz] kt pt] (.Tuple [a, b, c] k2 pt2) pos.line X.env = pure false := by rfl) :
    QS X E (.Assign [.Tuple [.Name x px, .Name y py, .Name z pz] kt pt] (.Tuple [a, b, c] k2 pt2) pos) (wPar [i, j, l] [wa, wb, wc]) := (ps_par3 hc hN hi hj hl hij hil hjl hx hy hz ha hw hs).im fun D σ H h => by
  refine evs_im (lpar h) fun vs H q => ?_
  obtain ⟨l, q⟩ := q
  match vs, l with
  | [u, v, w], _ => exact ⟨u, v, w, rfl, q⟩
/-- the same by way of a tuple (some names are cells, or more than three) -/
def tNames : List Nat → TGs
  | [] => gNil
  | i :: is => gCons (gName i) (tNames is)
theorem names_set {is : List Nat} {vs : List V} {σ : St} {H : Hp} {Q : St → Hp → Prop} (hl : vs.length = is.length) (q : Q (sets σ is vs) H) : tNames is vs σ H Q := by
  induction is generalizing vs σ with
  | nil =>
    have : vs = [] := List.length_eq_zero_iff.mp hl
    subst this
    exact ⟨rfl, q⟩
  | cons i is ih =>
    match vs, hl with
    | v :: vs, hl => exact ⟨v, vs, rfl, ih (by simpa using hl) q⟩
theorem qs_parT {is : List Nat} {wl : List (WE α)} {tgs : List Expr} {k k2 : Nat} {tpos pos2 : Pos} (hc : X.calm = true) (ha : QAo X E es wl) (hg : PGs X tgs (tNames is)) (hl : wl.length = is.length := by rfl) (hz : wl.length ≤ 1000 := by decide)
    (hn : (assignEach tgs X.env).length = is.length := by rfl) (hst : (assignEach tgs X.env).findIdx? (·.1) = none := by rfl)
    (hs : swapsWithSole [.Tuple tgs k tpos] (.Tuple es k2 pos2) pos.line X.env = pure false := by rfl) (hw : swappedStores [.Tuple tgs k tpos] (.Tuple es k2 pos2) X.env = pure none := by rfl)
    (h1 : (assignEach [.Tuple tgs k tpos] X.env).map (·.2) = [assign (.Tuple tgs k tpos) X.env] := by rfl) : QS X E (.Assign [.Tuple tgs k tpos] (.Tuple es k2 pos2) pos) (wPar is wl) :=
  (ps_asg (pe_tup ha) (pg_tup hc hg hn hst) hs hw h1).im fun D σ H h => by
    show tEvs E wl σ H fun xs H1 => xs.length ≤ sizeLine ∧ ∀ p, H1 p = none → gTup X.K is.length (tNames is) (.ref p) σ (upd H1 p (.tup xs)) D.nx
    obtain ⟨hk, ρ, F, oa, Dp, o, hw, en⟩ := h
    refine levs o hw fun ts ρ1 vs F1 H1 oa1 q1 s1 o1 tv1 l1 l2 => ⟨by rw [l2]; exact sz1000 hz, fun p np => ?_⟩
    have gr := Grw.cell (o := .tup vs) o1.sub np
    have o2 := o1.grw gr
    have lv : vs.length = is.length := l2.trans hl
    have tv2 : SvoOk E hk ρ1 ts vs F1 (upd H1 p (.tup vs)) oa1 σ := by
      clear q1 l1 l2 gr o2 lv
      have key : ∀ {ts : List SV} {vs us : List V}, SvoOk E hk ρ1 ts vs F1 H1 oa1 σ → SvoOk E hk ρ1 ts vs F1 (upd H1 p (.tup us)) oa1 σ := by
        intro ts
        induction ts with
        | nil => exact fun h => h
        | cons t ts ih =>
          rintro vs us ⟨v, r, e, h1, h2, h3⟩
          refine ⟨v, r, e, ?_, h2, ih h3⟩
          cases t with
          | ow d =>
            obtain ⟨b, e, w, f, z⟩ := h1
            exact ⟨b, e, w.mono (Same.refl _) fun o q => same_free np _ _ q, f, z⟩
          | fz d => exact h1
      exact key tv1
    obtain ⟨oa', o'⟩ := puts_ok (is := is) o2 tv2
    exact ⟨p, vs, rfl, SqT.of upd_same, lv, names_set lv (en.nx _ F1 _ oa' _ q1 s1 o')⟩
end
end Pu

/-! loops and comprehensions over plain data -/
namespace Pu
open PySem L2 Ow
variable {α : Type}
/-! ### targets -/
/-- a target as one on data; vs: the slots that it sets -/
structure GS (E : En α) (g : TG) (wg : WG α) (vs : List Nat) : Prop where
  go : ∀ {hk ρ F H oa σ d v k}, Ok E hk ρ F H oa σ → Rp F d v → wg d ρ k → ∃ ρ' oa' σ', Ok E hk ρ' F H oa' σ' ∧ k ρ' ∧ wipe σ' vs = wipe σ vs ∧ ∀ Q : St → Hp → Prop, Q σ' H → g v σ H Q
abbrev WGs (α : Type) := List D → PSt α → (PSt α → Prop) → Prop
structure GSs (E : En α) (n : Nat) (g : TGs) (wg : WGs α) (vs : List Nat) : Prop where
  go : ∀ {hk ρ F H oa σ ds xs k}, Ok E hk ρ F H oa σ → RpL F ds xs → wg ds ρ k → ds.length = n ∧ ∃ ρ' oa' σ', Ok E hk ρ' F H oa' σ' ∧ k ρ' ∧ wipe σ' vs = wipe σ vs ∧ ∀ Q : St → Hp → Prop, Q σ' H → g xs σ H Q
def wgN (i : Nat) : WG α := fun d ρ k => k (ρ.put i (.fz d))
def wgNil : WGs α := fun ds ρ k => match ds with
  | [] => k ρ
  | _ => False
def wgCons (g : WG α) (gs : WGs α) : WGs α := fun ds ρ k => match ds with
  | d :: ds => g d ρ fun ρ1 => gs ds ρ1 k
  | [] => False
def wgT (gs : WGs α) : WG α := fun d ρ k => match d with
  | .tup l => gs l ρ k
  | _ => False
theorem wipe_set {σ : St} {i : Nat} {v : Option V} : ∀ {vs : List Nat}, i ∈ vs → wipe (σ.set i v) vs = wipe σ vs
  | [], h => by cases h
  | j :: vs, h => by
    unfold wipe
    by_cases hm : i ∈ vs
    · rw [wipe_set hm]
    · have e : i = j := by
        rcases List.mem_cons.mp h with e | h
        · exact e
        · exact absurd h hm
      subst e
      clear h
      have key : ∀ {vs : List Nat} {σ : St}, i ∉ vs → wipe (σ.set i v) vs = (wipe σ vs).set i v := by
        intro vs
        induction vs with
        | nil => exact fun _ => rfl
        | cons k vs ih =>
          intro σ h
          unfold wipe
          rw [ih (fun z => h (List.mem_cons_of_mem _ z)), List.set_comm _ _ (fun z : i = k => h (by rw [z]; exact List.mem_cons_self))]
      rw [key hm, List.set_set]
theorem gs_name {E : En α} {i : Nat} {vs : List Nat} (h : i ∈ vs := by decide) : GS E (gName i) (wgN i) vs := ⟨fun {hk ρ F H oa σ d v k} o r q => by
  obtain ⟨oa', o', _⟩ := setF' o (i := i) r
  exact ⟨_, oa', _, o', q, wipe_set h, fun Q z => z⟩⟩
theorem gss_nil {E : En α} {vs : List Nat} : GSs E 0 gNil wgNil vs := ⟨fun {hk ρ F H oa σ ds xs k} o r q => by
  cases ds with
  | nil => exact ⟨rfl, ρ, oa, σ, o, q, rfl, fun Q z => ⟨r.isNil, z⟩⟩
  | cons d ds => exact (show False from q).elim⟩
theorem gss_cons {E : En α} {n : Nat} {g : TG} {gs : TGs} {wg : WG α} {wgs : WGs α} {vs : List Nat} (h1 : GS E g wg vs) (h2 : GSs E n gs wgs vs) : GSs E (n + 1) (gCons g gs) (wgCons wg wgs) vs := ⟨fun {hk ρ F H oa σ ds xs k} o r q => by
  cases ds with
  | nil => exact (show False from q).elim
  | cons d ds =>
    obtain ⟨x, xs', e, r1, r2⟩ := r.uncons
    subst e
    obtain ⟨ρ1, oa1, σ1, o1, q1, w1, f1⟩ := h1.go o r1 q
    obtain ⟨l, ρ2, oa2, σ2, o2, q2, w2, f2⟩ := h2.go o1 r2 q1
    exact ⟨by simp [l], ρ2, oa2, σ2, o2, q2, w2.trans w1, fun Q z => ⟨x, xs', rfl, f1 _ (f2 Q z)⟩⟩⟩
theorem gs_tup {E : En α} {K : PySem.W.Frag} {n : Nat} {gs : TGs} {wgs : WGs α} {vs : List Nat} (h : GSs E n gs wgs vs) : GS E (gTup K n gs) (wgT wgs) vs := ⟨fun {hk ρ F H oa σ d v k} o r q => by
  cases d with
  | tup l =>
    unfold Rp at r
    obtain ⟨a, xs, e, ea, r⟩ := r
    subst e
    obtain ⟨l1, ρ', oa', σ', o', q', w', f⟩ := h.go o r q
    exact ⟨ρ', oa', σ', o', q', w', fun Q z => ⟨a, xs, rfl, SqT.of (o.sub.tup ea), r.len.trans l1, f Q z⟩⟩
  | _ => exact (show False from q).elim⟩
/-! ### what is walked -/
structure ItOk (J : It) (ds : List D) (F : Hp) : Prop where
  go : ∀ (i : Nat) (d : D) (F' H : Hp), ds[i]? = some d → Sub F' H → Same F F' → J.go i H ∧ ∀ x H', J.yld i H x H' → ∃ F'', Grw F' H F'' H' ∧ Rp F'' d x
  stop : ∀ F' H, Sub F' H → Same F F' → J.stop ds.length H
theorem it_list {K : PySem.W.Frag} {F : Hp} {a : Addr} {vs : List V} {l : List D} (e : F a = some (.lst vs)) (r : RpL F l vs) : ItOk (Itl K a) l F := by
  refine ⟨fun i d F' H ei s f => ?_, fun F' H s f => ?_⟩
  · have q := SqL.of (K := K) (s.lst (f _ _ e))
    obtain ⟨x, ex, rx⟩ := r.get ei
    have hi := (List.getElem?_eq_some_iff.mp ex).1
    refine ⟨walk_list.goes i H hi q, fun y H' h => ?_⟩
    obtain ⟨e1, e2⟩ := walk_list.yields i H y H' hi q h
    subst e1
    rw [ex] at e2
    cases e2
    exact ⟨F', Grw.refl s, rx.mono f⟩
  · have := walk_list.stops H (SqL.of (K := K) (s.lst (f _ _ e)))
    rw [r.len] at this
    exact this
theorem it_tup {K : PySem.W.Frag} {F : Hp} {a : Addr} {vs : List V} {l : List D} (e : F a = some (.tup vs)) (r : RpL F l vs) : ItOk (Itt K a) l F := by
  refine ⟨fun i d F' H ei s f => ?_, fun F' H s f => ?_⟩
  · have q := SqT.of (K := K) (s.tup (f _ _ e))
    obtain ⟨x, ex, rx⟩ := r.get ei
    have hi := (List.getElem?_eq_some_iff.mp ex).1
    refine ⟨walk_tup.goes i H hi q, fun y H' h => ?_⟩
    obtain ⟨e1, e2⟩ := walk_tup.yields i H y H' hi q h
    subst e1
    rw [ex] at e2
    cases e2
    exact ⟨F', Grw.refl s, rx.mono f⟩
  · have := walk_tup.stops H (SqT.of (K := K) (s.tup (f _ _ e)))
    rw [r.len] at this
    exact this
def sgD (x : Str) : List D := x.cps.toList.map fun c => .str ⟨#[c]⟩
theorem it_str {F : Hp} {x : Str} : ItOk (Its x) (sgD x) F := by
  have l : (sgD x).length = x.cps.size := by simp [sgD]
  refine ⟨fun i d F' H ei s f => ?_, fun F' H s f => ?_⟩
  · have hi : i < x.cps.size := by rw [← l]; exact (List.getElem?_eq_some_iff.mp ei).1
    refine ⟨walk_str.goes i H hi trivial, fun y H' h => ?_⟩
    obtain ⟨e1, c, ec, e2⟩ := walk_str.yields i H y H' hi trivial h
    subst e1
    subst e2
    refine ⟨F', Grw.refl s, ?_⟩
    unfold sgD at ei
    rw [List.getElem?_map, Array.getElem?_toList, ec] at ei
    cases ei
    unfold Rp
    rfl
  · rw [l]
    exact walk_str.stops H trivial
def rgD (lo : Int) (n : Nat) : List D := (List.range n).map fun i => .int (lo + (i : Nat))
theorem rgD_get {lo : Int} {n i : Nat} {d : D} (h : (rgD lo n)[i]? = some d) : i < n ∧ d = .int (lo + (i : Nat)) := by
  unfold rgD at h
  rw [List.getElem?_map] at h
  by_cases hi : i < n
  · rw [List.getElem?_range hi] at h
    exact ⟨hi, (Option.some.inj h).symm⟩
  · rw [List.getElem?_eq_none (by simpa using hi)] at h
    cases h
theorem rgD_len {lo : Int} {n : Nat} : (rgD lo n).length = n := by simp [rgD]
theorem it_range {F : Hp} {lo : Int} {n : Nat} : ItOk (Itr lo n) (rgD lo n) F := by
  refine ⟨fun i d F' H ei s f => ?_, fun F' H s f => ?_⟩
  · obtain ⟨hi, e⟩ := rgD_get ei
    subst e
    refine ⟨walk_range.goes i H hi trivial, fun y H' h => ?_⟩
    obtain ⟨e1, e2⟩ := walk_range.yields i H y H' hi trivial h
    subst e1
    subst e2
    exact ⟨F', Grw.refl s, by unfold Rp; rfl⟩
  · rw [rgD_len]
    exact walk_range.stops H trivial
def enD (l : List D) : List D := (List.range l.length).map fun i => .tup [.int (i : Nat), l.getD i .non]
theorem enD_get {l : List D} {i : Nat} {d : D} (h : (enD l)[i]? = some d) : ∃ e, l[i]? = some e ∧ d = .tup [.int (i : Nat), e] := by
  unfold enD at h
  rw [List.getElem?_map] at h
  by_cases hi : i < l.length
  · rw [List.getElem?_range hi] at h
    refine ⟨l[i], List.getElem?_eq_getElem hi, (Option.some.inj h).symm.trans ?_⟩
    show D.tup [.int (i : Nat), l.getD i .non] = _
    rw [List.getD_eq_getElem?_getD, List.getElem?_eq_getElem hi]
    rfl
  · rw [List.getElem?_eq_none (by simpa using hi)] at h
    cases h
theorem enD_len {l : List D} : (enD l).length = l.length := by simp [enD]
theorem en_pair {F' H H' : Hp} {i : Nat} {e : D} {x y : V} (s : Sub F' H) (rx : Rp F' e x) (h : ∃ T, y = V.ref T ∧ H T = none ∧ H' = upd H T (.tup [.int (i : Nat), x])) : ∃ F'', Grw F' H F'' H' ∧ Rp F'' (.tup [.int (i : Nat), e]) y := by
  obtain ⟨T, e1, n, e2⟩ := h
  subst e1
  subst e2
  have g := Grw.froz (o := .tup [.int (i : Nat), x]) s n
  refine ⟨_, g, ?_⟩
  unfold Rp
  exact ⟨T, _, rfl, upd_same, RpL.cons (by unfold Rp; rfl) (RpL.one (rx.mono g.f))⟩
theorem it_enL {K : PySem.W.Frag} {F : Hp} {a : Addr} {vs : List V} {l : List D} (e : F a = some (.lst vs)) (r : RpL F l vs) : ItOk (Ite K a) (enD l) F := by
  refine ⟨fun i d F' H ei s f => ?_, fun F' H s f => ?_⟩
  · obtain ⟨z, ez, ed⟩ := enD_get ei
    subst ed
    have q := SqL.of (K := K) (s.lst (f _ _ e))
    obtain ⟨x, ex, rx⟩ := r.get ez
    have hi := (List.getElem?_eq_some_iff.mp ex).1
    refine ⟨walk_enum.goes i H hi q, fun y H' h => ?_⟩
    obtain ⟨T, u, w, h1, h2, h3, h4, h5⟩ := walk_enum.yields i H y H' hi q h
    cases h4
    have h5 : vs[i]? = some w := h5
    rw [ex] at h5
    cases h5
    exact en_pair s (rx.mono f) ⟨T, h1, h2, h3⟩
  · have := walk_enum.stops H (SqL.of (K := K) (s.lst (f _ _ e)))
    rw [enD_len, ← r.len]
    exact this
theorem it_enT {K : PySem.W.Frag} {F : Hp} {a : Addr} {vs : List V} {l : List D} (e : F a = some (.tup vs)) (r : RpL F l vs) : ItOk (Itet K a) (enD l) F := by
  refine ⟨fun i d F' H ei s f => ?_, fun F' H s f => ?_⟩
  · obtain ⟨z, ez, ed⟩ := enD_get ei
    subst ed
    have q := SqT.of (K := K) (s.tup (f _ _ e))
    obtain ⟨x, ex, rx⟩ := r.get ez
    have hi := (List.getElem?_eq_some_iff.mp ex).1
    refine ⟨walk_enT.goes i H hi q, fun y H' h => ?_⟩
    obtain ⟨T, u, w, h1, h2, h3, h4, h5⟩ := walk_enT.yields i H y H' hi q h
    cases h4
    have h5 : vs[i]? = some w := h5
    rw [ex] at h5
    cases h5
    exact en_pair s (rx.mono f) ⟨T, h1, h2, h3⟩
  · have := walk_enT.stops H (SqT.of (K := K) (s.tup (f _ _ e)))
    rw [enD_len, ← r.len]
    exact this
/-! ### iterations -/
def lI (E : En α) (w : WI α) : TI := fun σ H R => ∃ hk ρ F oa Qp, Ok E hk ρ F H oa σ ∧ w ρ Qp ∧ ∀ ds ρ' J F' H' oa', Qp ds ρ' → Same F F' → Ok E hk ρ' F' H' oa' σ → ItOk J ds F' → R J H'
abbrev QI (X : Cx) (E : En α) (tg e : Expr) (w : WI α) : Prop := PI X tg e (lI E w)
/-- the items of a list, a tuple, a text -/
def sqD : D → Option (List D)
  | .lst l => some l
  | .tup l => some l
  | .str x => some (sgD x)
  | _ => none
def wItE (we : WE α) : WI α := fun ρ Q => we ρ fun t ρ1 => fzT t ρ1 fun d ρ2 => opK (sqD d) fun l => Q l ρ2
/-- the items of a list or a tuple -/
def ltD : D → Option (List D)
  | .lst l => some l
  | .tup l => some l
  | _ => none
def wItEn (we : WE α) : WI α := fun ρ Q => we ρ fun t ρ1 => fzT t ρ1 fun d ρ2 => opK (ltD d) fun l => Q (enD l) ρ2
section
variable {X : Cx} {E : En α} {tg e e2 c elt : Expr} {es : List Expr} {body ifs : List Stmt} {we wa wb : WE α} {wi : WI α} {wg : WG α} {w : WS α} {wt : WT α} {ws : WA α} {pos p : Pos} {n : Nat} {g : TG} {vs : List Nat}
def iAny (K : PySem.W.Frag) (te : TE) : TI := fun σ H R => te σ H fun x G => (∃ a xs, x = .ref a ∧ SqL K G a xs ∧ R (Itl K a) G) ∨ (∃ a xs, x = .ref a ∧ SqT K G a xs ∧ R (Itt K a) G) ∨ ∃ y, x = .str y ∧ R (Its y) G
theorem pi_any {te : TE} (he : PE X e te) : PI X tg e (iAny X.K te) := by
  refine ⟨fun pins s σ H R I h => ?_⟩
  refine thn (he.run pins s σ H _ I h) fun v s1 ⟨x, H1, I1, r1, q1⟩ => ?_
  have one : ∀ (k : Addr), k ∈ [s1.heap.objs.size] → FpOk X pins H1 k := fun k hk => by
    have e : k = s1.heap.objs.size := by simpa using hk
    subst e
    exact I1.fpOk (Nat.le_refl _) (I1.hok.fresh (Nat.le_refl _))
  rcases q1 with ⟨a, xs, ex, hq, q⟩ | ⟨a, xs, ex, hq, q⟩ | ⟨y, ex, q⟩
  · subst ex
    cases r1
    obtain ⟨its, rv, p, hz⟩ := I1.list hq
    refine wpAny_pyIter_list p.isList ?_
    exact ⟨s1.heap.objs.size, [s1.heap.objs.size], _, _, H1, rfl, I1.kept (t' := s1.toks) fun b o e => Heap.get?_push_of_some _ e, turn_list a _, ⟨_, Heap.get?_push_size _ rfl, rfl, rfl⟩, one, q⟩
  · subst ex
    cases r1
    obtain ⟨its, rv, p, hz⟩ := I1.tuple hq
    refine wpAny_pyIter_tuple (show s1.heap.IsTuple a its.toArray from p) ?_
    exact ⟨s1.heap.objs.size, [s1.heap.objs.size], _, _, H1, rfl, I1.kept (t' := s1.toks) fun b o e => Heap.get?_push_of_some _ e, turn_tuple a _, ⟨_, Heap.get?_push_size _ rfl, rfl, rfl⟩, one, q⟩
  · subst ex
    obtain ⟨t, rfl⟩ := r1
    cases ha : y.cps.all (· < 128)
    · exact wpAny_pyIter_wide ha (pi_one (tk := s1.toks) I1 _ (turn_str _ y t "str_iterator" (.inr rfl)) ⟨_, Heap.get?_push_size _ rfl, rfl, rfl⟩ q)
    · exact wpAny_pyIter_ascii ha (pi_one (tk := s1.toks) I1 _ (turn_str _ y t "str_ascii_iterator" (.inl rfl)) ⟨_, Heap.get?_push_size _ rfl, rfl, rfl⟩ q)
theorem qi_any (he : QE X E e we) : QI X E tg e (wItE we) := (pi_any he).im fun σ H R h => by
  obtain ⟨hk, ρ, F, oa, Qp, o, hw, post⟩ := h
  refine ⟨hk, ρ, F, oa, _, o, hw, fun t ρ1 v F1 H1 oa1 q1 s1 o1 tv => ?_⟩
  obtain ⟨d, ρ2, F2, oa2, s2, o2, r, q2⟩ := fz_ok o1 tv q1
  cases d with
  | lst l =>
    unfold Rp at r
    obtain ⟨a, vs, ev, ea, r⟩ := r
    exact .inl ⟨a, vs, ev, SqL.of (o2.sub.lst ea), post l ρ2 _ F2 H1 oa2 q2 (s1.trans s2) o2 (it_list ea r)⟩
  | tup l =>
    unfold Rp at r
    obtain ⟨a, vs, ev, ea, r⟩ := r
    exact .inr (.inl ⟨a, vs, ev, SqT.of (o2.sub.tup ea), post l ρ2 _ F2 H1 oa2 q2 (s1.trans s2) o2 (it_tup ea r)⟩)
  | str x =>
    unfold Rp at r
    exact .inr (.inr ⟨x, r, post _ ρ2 _ F2 H1 oa2 q2 (s1.trans s2) o2 it_str⟩)
  | _ => exact (show False from q2).elim
theorem qi_enum {tpos : Pos} {elts : List Expr} {kk : Nat} (hg : Gl X "enumerate") (hm : X.mg "enumerate" = none) (ha : QE X E e we) (hs : starEach [e] X.env = [(false, eval e X.env)] := by rfl) :
    QI X E (.Tuple elts kk tpos) (.Call (.Name "enumerate" p) [e] [] pos) (wItEn we) := (pi_enA hg hm (pa_cons ha pa_nil hs) hs).im fun σ H R h => by
  obtain ⟨hk, ρ, F, oa, Qp, o, hw, post⟩ := h
  refine ⟨hk, ρ, F, oa, _, o, hw, fun t ρ1 v F1 H1 oa1 q1 s1 o1 tv => ?_⟩
  obtain ⟨d, ρ2, F2, oa2, s2, o2, r, q2⟩ := fz_ok o1 tv q1
  cases d with
  | lst l =>
    unfold Rp at r
    obtain ⟨a, vs, ev, ea, r⟩ := r
    subst ev
    exact ⟨a, vs, rfl, .inl ⟨SqL.of (o2.sub.lst ea), post _ ρ2 _ F2 H1 oa2 q2 (s1.trans s2) o2 (it_enL ea r)⟩⟩
  | tup l =>
    unfold Rp at r
    obtain ⟨a, vs, ev, ea, r⟩ := r
    subst ev
    exact ⟨a, vs, rfl, .inr ⟨SqT.of (o2.sub.tup ea), post _ ρ2 _ F2 H1 oa2 q2 (s1.trans s2) o2 (it_enT ea r)⟩⟩
  | _ => exact (show False from q2).elim
/-- range(n), range(a, b) -/
def intK (d : D) (k : Int → Prop) : Prop := match d with
  | .int i => k i
  | _ => False
theorem intK_i {i : Int} {k : Int → Prop} : intK (.int i) k = k i := rfl
def wIt1 (we : WE α) : WI α := fun ρ Q => we ρ fun t ρ1 => rdT t ρ1 fun d => intK d fun j => (-(2 ^ 62) ≤ j ∧ j < 2 ^ 62) ∧ Q (rgD 0 j.toNat) ρ1
def wIt2 (wa wb : WE α) : WI α := fun ρ Q => wa ρ fun t ρ1 => wb ρ1 fun u ρ2 => rdT t.st ρ2 fun d => rdT u ρ2 fun e => intK d fun i => intK e fun j => (-(2 ^ 62) ≤ i ∧ i < 2 ^ 62 ∧ -(2 ^ 62) ≤ j ∧ j < 2 ^ 62) ∧ Q (rgD i (j - i).toNat) ρ2
theorem vw_int {F H : Hp} {i : Int} {v : V} (h : Vw F H (.int i) v) : v = .int i := by
  have h : Rp F (.int i) v := h
  unfold Rp at h
  exact h
theorem vw_str {F H : Hp} {i : Str} {v : V} (h : Vw F H (.str i) v) : v = .str i := by
  have h : Rp F (.str i) v := h
  unfold Rp at h
  exact h
theorem vw_bl {F H : Hp} {i : Bool} {v : V} (h : Vw F H (.bl i) v) : v = .bl i := by
  have h : Rp F (.bl i) v := h
  unfold Rp at h
  exact h
theorem vw_non {F H : Hp} {v : V} (h : Vw F H .non v) : v = .non := by
  have h : Rp F .non v := h
  unfold Rp at h
  exact h
theorem qi_range1 (hg : Gl X "range") (hm : X.mg "range" = none) (ha : QE X E e we) (hs : starEach [e] X.env = [(false, eval e X.env)] := by rfl) : QI X E tg (.Call (.Name "range" p) [e] [] pos) (wIt1 we) :=
  (pi_range1 hg hm (pa_cons ha pa_nil hs) hs).im fun σ H R h => by
    obtain ⟨hk, ρ, F, oa, Qp, o, hw, post⟩ := h
    refine ⟨hk, ρ, F, oa, _, o, hw, fun t ρ1 v F1 H1 oa1 q1 s1 o1 tv => ?_⟩
    obtain ⟨d, r, q2⟩ := rd_ok o1 tv q1
    cases d with
    | int j =>
      have := vw_int r
      subst this
      obtain ⟨⟨h1, h2⟩, q⟩ := q2
      exact ⟨j, rfl, h1, h2, post _ ρ1 _ F1 H1 oa1 q s1 o1 it_range⟩
    | _ => exact (show False from q2).elim
theorem qi_range2 (hg : Gl X "range") (hm : X.mg "range" = none) (ha : QE X E e wa) (hb : QE X E e2 wb) (hs : starEach [e, e2] X.env = [(false, eval e X.env), (false, eval e2 X.env)] := by rfl)
    (hs2 : starEach [e2] X.env = [(false, eval e2 X.env)] := by rfl) : QI X E tg (.Call (.Name "range" p) [e, e2] [] pos) (wIt2 wa wb) :=
  (pi_range2 hg hm (pa_cons ha (pa_cons hb pa_nil hs2) (by rw [hs, hs2] <;> rfl)) hs hs2).im fun σ H R h => by
    obtain ⟨hk, ρ, F, oa, Qp, o, hw, post⟩ := h
    refine ⟨hk, ρ, F, oa, _, o, hw, fun t ρ1 v F1 H1 oa1 q1 s1 o1 tv => ?_⟩
    obtain ⟨F1', s1', o1', tv'⟩ := st_ok o1 tv
    refine ⟨hk, ρ1, F1', oa1, _, o1', q1, fun t2 ρ2 v2 F2 H2 oa2 q2 s2 o2 tv2 => ?_⟩
    obtain ⟨d, r, q3⟩ := rd_ok o2 (st_keep tv' s2) q2
    obtain ⟨d2, r2, q4⟩ := rd_ok o2 tv2 q3
    cases d with
    | int i =>
      cases d2 with
      | int j =>
        have e1 := vw_int r
        have e2 := vw_int r2
        subst e1
        subst e2
        obtain ⟨h1, q⟩ := q4
        exact ⟨i, j, rfl, h1, post _ ρ2 _ F2 H2 oa2 q ((s1.trans s1').trans s2) o2 it_range⟩
      | _ => exact (show False from q4).elim
    | _ => exact (show False from q4).elim
/-! ### for, while -/
def forB (ds : List D) (ρ1 : PSt α) (wg : WG α) (w : WS α) (D : PEnds α) : Prop := ∃ I : Nat → PSt α → Prop, (∃ ρ0, Frz ρ1 ρ0 ∧ I 0 ρ0) ∧ (∀ i d ρ, ds[i]? = some d → I i ρ → wg d ρ fun ρ' => w { D with nx := fun ρ => ∃ ρ', Frz ρ ρ' ∧ I (i + 1) ρ', ct := fun ρ => ∃ ρ', Frz ρ ρ' ∧ I (i + 1) ρ', bk := D.nx } ρ') ∧ ∀ ρ, I ds.length ρ → D.nx ρ
def wFor (wi : WI α) (wg : WG α) (w : WS α) : WS α := fun D ρ => wi ρ fun ds ρ1 => forB ds ρ1 wg w D
theorem qs_for {body : List Stmt} (hp : PassesOwn (model X.prog X.w) X.A X.env X.xe) (hc : X.calm = true) (hi : QI X E tg e wi) (hg : PG X tg g) (gs : GS E g wg vs) (hb : QSs X E body w)
    (hs : ∀ x, foldedSetIterable e X.env x = pure x := by intro _; rfl) : QS X E (.For tg e body [] pos) (wFor wi wg w) := (ps_for hp hc hi hg hb hs).im fun D σ H h => by
  obtain ⟨hk, ρ, F, oa, Dp, o, hw, en⟩ := h
  refine ⟨hk, ρ, F, oa, _, o, hw, fun ds ρ1 J F1 H1 oa1 q1 s1 o1 it => ?_⟩
  obtain ⟨I, ⟨ρ0, fz0, h0⟩, turn, fin⟩ := q1
  obtain ⟨F0, oa0, s0, o0⟩ := o1.frz fz0
  refine ⟨fun i m σ H => i + m = ds.length ∧ ∃ ρ F oa, Same F1 F ∧ Ok E hk ρ F H oa σ ∧ I i ρ, ⟨ds.length, by omega, ρ0, F0, oa0, s0, o0, h0⟩, ?_⟩
  rintro i m σ2 H2 ⟨hm, ρ2, F2, oa2, s2, o2, hI⟩
  by_cases hl : i = ds.length
  · subst hl
    exact .inl ⟨it.stop F2 H2 o2.sub s2, en.nx ρ2 F2 H2 oa2 σ2 (fin ρ2 hI) (s1.trans s2) o2⟩
  · obtain ⟨d, ed⟩ : ∃ d, ds[i]? = some d := ⟨_, List.getElem?_eq_getElem (show i < ds.length by omega)⟩
    obtain ⟨g1, g2⟩ := it.go i d F2 H2 ed o2.sub s2
    refine .inr ⟨g1, fun σ H => ∃ ρ F oa, Same F1 F ∧ Ok E hk ρ F H oa σ ∧ I (i + 1) ρ, fun σ' H' z => ⟨m - 1, by omega, by omega, z⟩, fun x H' y => ?_⟩
    obtain ⟨F3, gr, rx⟩ := g2 x H' y
    have o3 := o2.grw gr
    obtain ⟨ρ4, oa4, σ4, o4, q4, _, f4⟩ := gs.go o3 rx (turn i d ρ2 ed hI)
    refine f4 _ ⟨hk, ρ4, F3, oa4, _, o4, q4, ?_⟩
    have S : Same F1 F3 := s2.trans gr.f
    have back : ∀ ρ' F' H' oa' σ', (∃ ρ'', Frz ρ' ρ'' ∧ I (i + 1) ρ'') → Same F3 F' → Ok E hk ρ' F' H' oa' σ' → ∃ ρ F oa, Same F1 F ∧ Ok E hk ρ F H' oa σ' ∧ I (i + 1) ρ := fun ρ' F' H' oa' σ' ⟨ρ2, fz, q⟩ s o' => by
      obtain ⟨F5, oa5, s5, o5⟩ := o'.frz fz
      exact ⟨ρ2, F5, oa5, (S.trans s).trans s5, o5, q⟩
    exact ⟨back, fun r m' v F' H' q s o' rv => en.rt r m' v F' H' q ((s1.trans S).trans s) o' rv, fun ρ' F' H' oa' σ' q s o' => en.nx ρ' F' H' oa' σ' q ((s1.trans S).trans s) o', back⟩
/-- m: what grows less -/
def wWhile (wt : WT α) (w : WS α) : WS α := fun D ρ => ∃ I : Nat → PSt α → Prop, (∃ m ρ0, Frz ρ ρ0 ∧ I m ρ0) ∧ ∀ m ρ, I m ρ → wt ρ fun b ρ' => if b = true then w { D with nx := fun ρ => ∃ m' ρ', m' < m ∧ Frz ρ ρ' ∧ I m' ρ', ct := fun ρ => ∃ m' ρ', m' < m ∧ Frz ρ ρ' ∧ I m' ρ', bk := D.nx } ρ' else D.nx ρ'
theorem qs_while {body : List Stmt} (hp : PassesOwn (model X.prog X.w) X.A X.env X.xe) (hc : QT X E c wt) (hb : QSs X E body w) : QS X E (.While c body [] pos) (wWhile wt w) := (ps_while hp hc hb).im fun D σ H h => by
  obtain ⟨hk, ρ, F, oa, Dp, o, ⟨I, ⟨m, ρ0, fz0, h0⟩, turn⟩, en⟩ := h
  obtain ⟨F0, oa0, s0, o0⟩ := o.frz fz0
  refine ⟨fun m σ H => ∃ ρ F' oa, Same F F' ∧ Ok E hk ρ F' H oa σ ∧ I m ρ, ⟨m, ρ0, F0, oa0, s0, o0, h0⟩, ?_⟩
  rintro m σ2 H2 ⟨ρ2, F2, oa2, s2, o2, hI⟩
  refine ⟨hk, ρ2, F2, oa2, _, o2, turn m ρ2 hI, fun b ρ3 F3 H3 oa3 q3 s3 o3 => ?_⟩
  have S : Same F F3 := s2.trans s3
  cases b with
  | true =>
    refine iteT ⟨fun σ H => ∃ m', m' < m ∧ ∃ ρ F' oa, Same F F' ∧ Ok E hk ρ F' H oa σ ∧ I m' ρ, fun σ' H' z => z, hk, ρ3, F3, oa3, _, o3, q3, ?_⟩
    have back : ∀ ρ' F' H' oa' σ', (∃ m' ρ'', m' < m ∧ Frz ρ' ρ'' ∧ I m' ρ'') → Same F3 F' → Ok E hk ρ' F' H' oa' σ' → ∃ m', m' < m ∧ ∃ ρ F' oa, Same F F' ∧ Ok E hk ρ F' H' oa σ' ∧ I m' ρ := fun ρ' F' H' oa' σ' ⟨m', ρ2, hm, fz, q⟩ s o' => by
      obtain ⟨F5, oa5, s5, o5⟩ := o'.frz fz
      exact ⟨m', hm, ρ2, F5, oa5, (S.trans s).trans s5, o5, q⟩
    exact ⟨back, fun r m' v F' H' q s o' rv => en.rt r m' v F' H' q (S.trans s) o' rv, fun ρ' F' H' oa' σ' q s o' => en.nx ρ' F' H' oa' σ' q (S.trans s) o', back⟩
  | false => exact iteF (en.nx ρ3 F3 H3 oa3 σ2 q3 S o3)
/-! ### comprehensions -/
def wipeP (ρ : PSt α) : List Nat → PSt α
  | [] => ρ
  | v :: vs => ⟨(wipeP ρ vs).sl.set v none, ρ.g⟩
theorem wipeP_g (ρ : PSt α) (vs : List Nat) : (wipeP ρ vs).g = ρ.g := by cases vs <;> rfl
theorem Ok.wiped {hk : Hd} {ρ : PSt α} {F H : Hp} {oa : Nat → Option Addr} {σ : St} (o : Ok E hk ρ F H oa σ) : ∀ vs, ∃ oa', Ok E hk (wipeP ρ vs) F H oa' σ ∧ ∀ i a, oa' i = some a → i ∉ vs ∧ oa i = some a
  | [] => ⟨oa, o, fun i a h => ⟨by simp, h⟩⟩
  | v :: vs => by
    obtain ⟨oa', o', k⟩ := o.wiped vs
    have c := o'.clr v
    refine ⟨off oa' v, ?_, fun i a h => ?_⟩
    · unfold wipeP
      rw [wipeP_g] at c
      exact c
    · obtain ⟨h1, h2⟩ := off_some h
      obtain ⟨h3, h4⟩ := k i a h2
      exact ⟨fun z => (List.mem_cons.mp z).elim h1 h3, h4⟩
theorem wipeP_none {ρ : PSt α} {i : Nat} {s : SV} : ∀ {vs : List Nat}, (wipeP ρ vs).sl[i]? = some (some s) → i ∉ vs
  | [], _ => by simp
  | v :: vs, h => by
    unfold wipeP at h
    by_cases e : v = i
    · subst e
      by_cases hl : v < (wipeP ρ vs).sl.length
      · rw [List.getElem?_set_self hl] at h; cases h
      · rw [List.getElem?_eq_none (by simpa using hl)] at h; cases h
    · rw [List.getElem?_set_ne e] at h
      exact fun z => (List.mem_cons.mp z).elim (fun z => e z.symm) (wipeP_none h)
theorem wipe_get {σ : St} {i : Nat} : ∀ {vs : List Nat}, i ∉ vs → (wipe σ vs)[i]? = σ[i]?
  | [], _ => rfl
  | v :: vs, h => by
    unfold wipe
    rw [List.getElem?_set_ne (fun z : v = i => h (by rw [z]; exact List.mem_cons_self))]
    exact wipe_get fun z => h (List.mem_cons_of_mem _ z)
/-- slots that nothing is told of may hold anything -/
theorem Ok.reslot {hk : Hd} {ρ : PSt α} {F H : Hp} {oa : Nat → Option Addr} {σ σ' : St} (o : Ok E hk ρ F H oa σ) (hl : σ'.length = σ.length) (h : ∀ (i : Nat) (s : SV), ρ.sl[i]? = some (some s) → σ'[i]? = σ[i]?) : Ok E hk ρ F H oa σ' :=
  ⟨o.o, o.len.trans hl.symm, fun i s e => by
    obtain ⟨v, ev, r⟩ := o.sl i s e
    exact ⟨v, (h i s e).trans ev, r⟩, fun i a e => by
    obtain ⟨h1, h2, h3, h4, h5, h6⟩ := o.own i a e
    exact ⟨h1, h2, h3, h4, h5, by rw [hl]; exact h6⟩, o.inj⟩
def lcC (ρ1 : PSt α) (vs : List Nat) (wg : WG α) (wt : WT α) (we : WE α) (d : D) (m : α) (yes : D → α → Prop) (no : α → Prop) : Prop :=
  wg d ((wipeP ρ1 vs).sg m) fun ρ2 => wt ρ2 fun b ρ3 => if b = true then we ρ3 fun t ρ4 => fzT t ρ4 fun y ρ5 => (wipeP ρ5 vs).sl = (wipeP ρ1 vs).sl ∧ yes y ρ5.g else (wipeP ρ3 vs).sl = (wipeP ρ1 vs).sl ∧ no ρ3.g
def lcB (ds : List D) (ρ1 : PSt α) (wg : WG α) (wt : WT α) (we : WE α) (vs : List Nat) (Q : Tv → PSt α → Prop) : Prop := ds.length ≤ 100000 ∧ ∃ I : Nat → List D → α → Prop, I 0 [] ρ1.g ∧
  (∀ i d acc m, ds[i]? = some d → I i acc m → lcC ρ1 vs wg wt we d m (fun y m' => I (i + 1) (acc ++ [y]) m') (fun m' => I (i + 1) acc m')) ∧ ∀ acc m, I ds.length acc m → Q (.ow (.lst acc)) ((wipeP ρ1 vs).sg m)
def wLc (wi : WI α) (wg : WG α) (wt : WT α) (we : WE α) (vs : List Nat) : WE α := fun ρ Q => wi ρ fun ds ρ1 => lcB ds ρ1 wg wt we vs Q
def wYes : WT α := fun ρ Q => Q true ρ
theorem lyes {σ : St} {H : Hp} {Q : Bool → Hp → Prop} (h : lT E wYes σ H Q) : tYes σ H Q := by
  obtain ⟨hk, ρ, F, oa, Qp, o, hw, post⟩ := h
  exact post _ ρ F H oa hw (Same.refl _) o
theorem qts_nil : PTs X [] (lT E (wYes (α := α))) := pts_nil.im fun _ _ _ h => lyes h
theorem qts_one (h : QT X E c wt) : PTs X [c] (lT E wt) := pts_one h
theorem sg_put (ρ : PSt α) (m : α) : (ρ.sg m).g = m := rfl
theorem wipe_put {σ : St} {j : Nat} : ∀ {vs : List Nat}, wipe (σ.set j none) vs = (wipe σ vs).set j none
  | [] => rfl
  | k :: vs => by
    show (wipe (σ.set j none) vs).set k none = ((wipe σ vs).set k none).set j none
    rw [wipe_put]
    by_cases e : j = k
    · rw [e]
    · exact List.set_comm _ _ e
theorem wipe_wipe {σ : St} : ∀ {vs : List Nat}, wipe (wipe σ vs) vs = wipe σ vs
  | [] => rfl
  | v :: vs => by
    show (wipe ((wipe σ vs).set v none) vs).set v none = (wipe σ vs).set v none
    rw [wipe_put, List.set_set, wipe_wipe]
/-- a held container is changed -/
theorem Ok.heldput {hk : Hd} {ρ : PSt α} {F H : Hp} {oa : Nat → Option Addr} {σ : St} {a : Addr} {u u' : HO} (o : Ok E ((a, u) :: hk) ρ F H oa σ) (nf : ∀ ob x, u ≠ .frz ob x) (nk : ∀ p ∈ hk, p.1 ≠ a) (nf' : ∀ ob x, u' ≠ .frz ob x) :
    Ok E ((a, u') :: hk) ρ F (upd H a u') oa σ := by
  obtain ⟨o2, e, f, ns, fr, no⟩ := o.unhold nf
  have ne : ∀ {b : Addr}, b ≠ a → (upd H a u') b = H b := fun h => upd_ne h
  have o3 : Ok E hk ρ F (upd H a u') oa σ := by
    refine ⟨⟨fun b x q => ?_, E.R.keep o2.o.reg (Same.refl _) fun b x s q => ?_, o2.o.rF, o2.o.same, o2.o.new, fun b x s q => ?_, o2.o.sE, fun p hp => ?_, o2.o.nl⟩, o2.len, fun j s q => ?_, fun j b q => ?_, o2.inj⟩
    · rw [ne fun z => by rw [z, f] at q; cases q]
      exact o2.sub b x q
    · rw [ne fun z => ns (z ▸ s)]
      exact q
    · rcases o2.o.kp b x s q with z | z
      · left
        rw [ne fun y => ?_]
        · exact z
        · subst y
          rcases fr with y | y
          · rw [y] at q; cases q
          · exact s y
      · exact .inr z
    · obtain ⟨p1, p2, p3⟩ := o2.o.hd p hp
      refine ⟨?_, p2, p3⟩
      rw [ne (nk p hp)]
      exact p1
    · obtain ⟨x, ex, hx⟩ := o2.sl j s q
      refine ⟨x, ex, ?_⟩
      cases s with
      | fz d => exact hx
      | ow d =>
        obtain ⟨b, eb, e2, wb⟩ := hx
        refine ⟨b, eb, e2, wb.mono (Same.refl _) fun y z => ?_⟩
        rw [ne fun y => no j (y ▸ eb)]
        exact z
    · obtain ⟨g1, g2, g3⟩ := o2.own j b q
      refine ⟨?_, g2, g3⟩
      rw [ne fun y => no j (y ▸ q)]
      exact g1
  exact o3.hold upd_same f ns fr no nk nf'
theorem hk_nodup {hk : Hd} {ρ : PSt α} {F H : Hp} {oa : Nat → Option Addr} {σ : St} (o : Ok E hk ρ F H oa σ) {p : Addr} (n : H p = none) : ∀ q ∈ hk, q.1 ≠ p := o.freeK n
theorem pst_ext {ρ ρ' : PSt α} (h1 : ρ.sl = ρ'.sl) (h2 : ρ.g = ρ'.g) : ρ = ρ' := by
  cases ρ
  cases ρ'
  cases h1
  cases h2
  rfl
theorem toW {ρ : PSt α} {F H : Hp} {oa : Nat → Option Addr} {hk : Hd} {σ σ2 : St} (o : Ok E hk ρ F H oa σ2) (e : wipe σ2 vs = wipe σ vs) : ∃ oa', Ok E hk (wipeP ρ vs) F H oa' (wipe σ vs) := by
  obtain ⟨oa', o', _⟩ := o.wiped vs
  refine ⟨oa', o'.reslot (by rw [← e, wipe_length]) fun i s h => ?_⟩
  rw [← e]
  exact wipe_get (wipeP_none h)
theorem fromW {ρ1 : PSt α} {m : α} {F H : Hp} {oa : Nat → Option Addr} {hk : Hd} {σ : St} (o : Ok E hk ((wipeP ρ1 vs).sg m) F H oa (wipe σ vs)) : Ok E hk ((wipeP ρ1 vs).sg m) F H oa σ := by
  refine o.reslot (wipe_length σ vs).symm fun i s h => ?_
  exact (wipe_get (wipeP_none (show (wipeP ρ1 vs).sl[i]? = some (some s) from h))).symm
theorem llc (gs : GS E g wg vs) {σ : St} {H : Hp} {Q : VK} (h : lE E (wLc wi wg wt we vs) σ H Q) : tLc (lI E wi) g (lT E wt) (lE E we) vs σ H Q := by
  obtain ⟨hk, ρ, F, oa, Qp, o, hw, post⟩ := h
  refine ⟨hk, ρ, F, oa, _, o, hw, fun ds ρ1 J F1 H1 oa1 q1 s1 o1 it => ?_⟩
  obtain ⟨hz, I, h0, turn, fin⟩ := q1
  intro A nA
  have gr := Grw.cell (o := .lst []) o1.sub nA
  have nkA := o1.freeK nA
  obtain ⟨oa0, o0⟩ := toW (vs := vs) (σ := σ) ((o1.grw gr).hold upd_same (o1.sub.none nA) (o1.freeS nA) (o1.o.h0 nA) (o1.freeO nA) nkA (fun _ _ z => by cases z)) rfl
  have eP : wipeP ρ1 vs = (wipeP ρ1 vs).sg ρ1.g := pst_ext rfl (wipeP_g ρ1 vs)
  rw [eP] at o0
  refine ⟨fun i m H => i + m = ds.length ∧ ∃ acc accV mm F oa, Same F1 F ∧ Ok E ((A, .lst accV) :: hk) ((wipeP ρ1 vs).sg mm) F H oa (wipe σ vs) ∧ RpL F acc accV ∧ acc.length ≤ i ∧ I i acc mm,
    ⟨ds.length, by omega, [], [], ρ1.g, F1, oa0, Same.refl _, o0, RpL.nil, Nat.le_refl _, h0⟩, ?_⟩
  rintro i m H2 ⟨hm, acc, accV, mm, F2, oa2, s2, o2, ra, la, hI⟩
  have nf : ∀ ob x, HO.lst accV ≠ .frz ob x := fun _ _ z => by cases z
  by_cases hl : i = ds.length
  · subst hl
    refine .inl ⟨it.stop F2 H2 o2.sub s2, ?_⟩
    obtain ⟨o3, e3, f3, ns3, fr3, no3⟩ := o2.unhold nf
    exact post _ _ _ F2 H2 oa2 (fin acc mm hI) (s1.trans s2) (fromW o3) ⟨A, rfl, ⟨accV, e3, ra⟩, f3, ns3, fr3, no3, nkA⟩
  · obtain ⟨d, ed⟩ : ∃ d, ds[i]? = some d := ⟨_, List.getElem?_eq_getElem (show i < ds.length by omega)⟩
    obtain ⟨g1, g2⟩ := it.go i d F2 H2 ed o2.sub s2
    refine .inr ⟨g1, fun H => ∃ acc accV mm F oa, Same F1 F ∧ Ok E ((A, .lst accV) :: hk) ((wipeP ρ1 vs).sg mm) F H oa (wipe σ vs) ∧ RpL F acc accV ∧ acc.length ≤ i + 1 ∧ I (i + 1) acc mm, fun H' z => ⟨m - 1, by omega, by omega, z⟩, fun x H' y => ?_⟩
    obtain ⟨F3, gr3, rx⟩ := g2 x H' y
    have o3 := o2.grw gr3
    obtain ⟨ρ4, oa4, σ4, o4, q4, w4, f4⟩ := gs.go o3 rx (turn i d acc mm ed hI)
    rw [wipe_wipe] at w4
    refine f4 _ ⟨w4, _, ρ4, F3, oa4, _, o4, q4, fun b ρ5 F5 H5 oa5 q5 s5 o5 => ?_⟩
    have S5 : Same F1 F5 := (s2.trans gr3.f).trans s5
    have R5 : Same F2 F5 := gr3.f.trans s5
    cases b with
    | true =>
      refine iteT ⟨_, ρ5, F5, oa5, _, o5, q5, fun t ρ6 v F6 H6 oa6 q6 s6 o6 tv => ?_⟩
      obtain ⟨yv, ρ7, F7, oa7, s7, o7, r7, e7, q7⟩ := fz_ok o6 tv q6
      obtain ⟨hA, _⟩ := o7.o.hd (A, .lst accV) List.mem_cons_self
      have la2 := ra.len
      refine ⟨accV, hA, ?_, acc ++ [yv], accV ++ [v], ρ7.g, F7, ?_⟩
      · exact Nat.lt_of_lt_of_le (show accV.length < 100001 by omega) (by decide)
      · obtain ⟨oa8, o8⟩ := toW (vs := vs) (σ := σ) (o7.heldput (u' := .lst (accV ++ [v])) nf nkA (fun _ _ z => by cases z)) w4
        have e8 : wipeP ρ7 vs = (wipeP ρ1 vs).sg ρ7.g := pst_ext e7 (wipeP_g ρ7 vs)
        rw [e8] at o8
        exact ⟨oa8, (S5.trans s6).trans s7, o8, RpL.app (ra.mono ((R5.trans s6).trans s7)) (RpL.one r7), by simp; omega, q7⟩
    | false =>
      refine iteF ?_
      obtain ⟨e5, q5⟩ := (show (wipeP ρ5 vs).sl = (wipeP ρ1 vs).sl ∧ I (i + 1) acc ρ5.g from q5)
      obtain ⟨oa8, o8⟩ := toW (vs := vs) (σ := σ) o5 w4
      have e8 : wipeP ρ5 vs = (wipeP ρ1 vs).sg ρ5.g := pst_ext e5 (wipeP_g ρ5 vs)
      rw [e8] at o8
      exact ⟨acc, accV, ρ5.g, F5, oa8, S5, o8, ra.mono R5, by omega, q5⟩
theorem q_lc {src : Expr} {ifs : List Expr} {scope : Scope} {own : List (Str × Nat)} (hc : X.calm = true) (hN : X.N.Nodup) (hi : QI X E tg src wi) (ok : BlkOk X.N X.env.scope scope own)
    (hg : ∀ (s : Shared) (H : Hp) (C : Addr) (cl : List (Str × Addr)) (fp : List Addr), PG (X.blk s H scope (compEnvC scope cl C X.env) fp) tg g) (gs : GS E g wg vs)
    (ht : ∀ (s : Shared) (H : Hp) (C : Addr) (cl : List (Str × Addr)) (fp : List Addr), PTs (X.blk s H scope (compEnvC scope cl C X.env) fp) ifs (lT E wt))
    (he : ∀ (s : Shared) (H : Hp) (C : Addr) (cl : List (Str × Addr)) (fp : List Addr), QE (X.blk s H scope (compEnvC scope cl C X.env) fp) E elt we) (hv : own.map (·.2) = vs := by rfl) (hs : ∀ x, foldedSetIterable src X.env x = pure x := by intro _; rfl) :
    QE X E (.ListComp elt [⟨tg, src, ifs, 0⟩] scope pos) (wLc wi wg wt we vs) := by
  subst hv
  exact (pe_lc hc hN hi ok hg ht he hs).im fun _ _ _ h => llc gs h
theorem qs_setLc {i : Nat} {y : Str} {py spos : Pos} {src : Expr} {ifs : List Expr} {scope : Scope} {own : List (Str × Nat)} (hc : X.calm = true) (hN : X.N.Nodup) (hy : X.N[i]? = some y) (hyl : X.env.scope.names.lookup y = some .local)
    (hsw : swapsWith (.ListComp elt [⟨tg, src, ifs, 0⟩] scope pos) (some (.Name y py)) spos.line X.env = pure true) (hi : QI X E tg src wi) (ok : BlkOk X.N X.env.scope scope own)
    (hg : ∀ (s : Shared) (H : Hp) (C : Addr) (cl : List (Str × Addr)) (fp : List Addr), PG (X.blk s H scope (compEnvC scope cl C X.env) fp) tg g) (gs : GS E g wg vs)
    (ht : ∀ (s : Shared) (H : Hp) (C : Addr) (cl : List (Str × Addr)) (fp : List Addr), PTs (X.blk s H scope (compEnvC scope cl C X.env) fp) ifs (lT E wt))
    (he : ∀ (s : Shared) (H : Hp) (C : Addr) (cl : List (Str × Addr)) (fp : List Addr), QE (X.blk s H scope (compEnvC scope cl C X.env) fp) E elt we) (hv : own.map (·.2) = vs := by rfl) (hs : ∀ x, foldedSetIterable src X.env x = pure x := by intro _; rfl) :
    QS X E (.Assign [.Name y py] (.ListComp elt [⟨tg, src, ifs, 0⟩] scope pos) spos) (wSet i (wLc wi wg wt we vs)) := by
  subst hv
  exact (ps_setLc hc hN hy hyl hsw hi ok hg ht he hs).im fun _ _ _ h => lset (fun _ _ _ h => llc gs h) h
end
end Pu

/-! defs over plain data: what they promise, their bodies, their calls -/
namespace Pu
open PySem L2 Ow
/-- a raised exception: its class, its fields -/
structure Exc where
  C : Addr
  ks : List Str
  ds : List D
abbrev PSp (α : Type) := List D → α → (SV → α → Prop) → (Exc → α → Prop) → Prop
variable {α : Type}
structure ArgsOk (R : Reg α) (F H : Hp) (m : α) (ds : List D) (vs : List V) : Prop where
  sub : Sub F H
  reg : R.R m F H
  rF : ∀ a, R.S m a → F a = none
  rp : RpL F ds vs
def RvX (R : Reg α) (H : Hp) (m m' : α) (r : SV) (v : V) (F' H' : Hp) : Prop := match r with
  | .fz d => Rp F' d v
  | .ow d => ∃ a, v = .ref a ∧ Oc F' H' d a ∧ F' a = none ∧ ¬ R.S m' a ∧ (H a = none ∨ R.S m a)
def ExX (e : Exc) (c : Value) (d : Option Addr) (F' : Hp) : Prop := ∃ a vs, c = .ref e.C ∧ d = some a ∧ F' a = some (.xd (e.ks.zip vs)) ∧ e.ks.length = vs.length ∧ RpL F' e.ds vs
/-- the promise over values -/
def lsp (R : Reg α) (sp : PSp α) : Sp := fun vs H Q E => ∃ F m ds Qp Ep, ArgsOk R F H m ds vs ∧ sp ds m Qp Ep ∧
  (∀ r m' v F' H', Qp r m' → Xt R F H m F' H' m' → RvX R H m m' r v F' H' → Q v H') ∧
  (∀ e m' c d F' H', Ep e m' → Xt R F H m F' H' m' → ExX e c d F' → E c d H')
/-- a def that is called by its name -/
structure CalP (P : Program) (w : World) (K : PySem.W.Frag) (mg : Str → Option Value) (base : Heap) (R : Reg α) (k : Nat) (x : Str) (ps : List Str) (sp : PSp α) : Prop where
  ex : ∃ f fd, FnOkG P w K mg base (L2.CX P w) k f fd ps (lsp R sp) ∧ mg x = some (.ref f) ∧ PySem.W.keepIn K (.ref f) = true ∧ Binds K fd ps []
def startP (n : Nat) (ds : List D) (m : α) : PSt α := ⟨ds.map (fun d => some (.fz d)) ++ List.replicate (n - ds.length) none, m⟩
/-- what is wanted of an exception, from a state within the body -/
structure Xc (X : Cx) (E : En α) (Xp : Exc → PSt α → Prop) : Prop where
  ex : ∃ W : St → XK, (∀ σ, PassesAt (L2.CX X.prog X.w) X σ (W σ)) ∧ ∀ e ρ hk c d F H oa σ, Xp e ρ → Ok E hk ρ F H oa σ → ExX e c d F → W σ c d H
section
variable {P : Program} {w : World} {K : PySem.W.Frag} {mg : Str → Option Value} {base : Heap} {R : Reg α}
theorem start_ok {F H : Hp} {m : α} {ds : List D} {vs : List V} {N : List Str} (a : ArgsOk R F H m ds vs) : Ok ⟨R, R.S m, F, H, true⟩ [] (startP N.length ds m) F H (fun _ => none) (L2.start N vs) := by
  have l := a.rp.len
  refine ⟨⟨a.sub, a.reg, a.rF, Same.refl _, fun _ _ h => .inl h, fun _ _ _ h => .inl h, fun _ h => .inl h, (fun p hp => by cases hp), (fun _ p hp => by cases hp)⟩, ?_, fun i s e => ?_, (fun i b h => by cases h), (fun i j b h => by cases h)⟩
  · unfold startP L2.start
    simp [l]
  · unfold startP at e
    unfold L2.start
    by_cases hi : i < ds.length
    · dsimp only at e
      rw [List.getElem?_append_left (by simpa using hi), List.getElem?_map, List.getElem?_eq_getElem hi] at e
      cases e
      obtain ⟨x, ex, rx⟩ := a.rp.get (List.getElem?_eq_getElem hi)
      refine ⟨x, ?_, rx⟩
      rw [List.getElem?_append_left (by simp [l]; exact hi), List.getElem?_map, ex]
      rfl
    · dsimp only at e
      rw [List.getElem?_append_right (by simpa using hi), List.getElem?_replicate] at e
      split at e <;> cases e
theorem ends_xt {F H F' H' : Hp} {m m' : α} {hk : Hd} (o : Ok0 ⟨R, R.S m, F, H, true⟩ hk m' F' H') : Xt R F H m F' H' m' := by
  refine ⟨o.sub, o.reg, o.rF, o.same, fun a u e => ?_, fun a u ns e => ?_, o.sE⟩
  · rcases o.new a u e with h | h | h
    · exact .inl h
    · exact .inr (.inl h)
    · exact .inr (.inr h)
  · rcases o.kp a u ns e with h | ⟨ob, h⟩
    · exact h
    · exact absurd rfl (o.nl rfl _ h ob u)
theorem rv_x {F H F' H' : Hp} {m m' : α} {r : SV} {v : V} {hk : Hd} (h : RvOk ⟨R, R.S m, F, H, true⟩ hk m' r v F' H') : RvX R H m m' r v F' H' := by
  cases r with
  | fz d => exact h
  | ow d =>
    obtain ⟨a, e, w, f, ns, fr, _⟩ := h
    exact ⟨a, e, w, f, ns, fr⟩
/-- THE RULE for a def -/
theorem pfn {x qual : Str} {st : Stmt} {f : Addr} {fd : FuncData} {N ps : List Str} {k : Nat} {sp : PSp α} (F : Fun K x qual st f fd) (S : FnScope N ps (defScope st)) (len : ∀ ds m Q E, sp ds m Q E → ds.length = ps.length)
    (hbody : ∀ (X : Cx) (E : En α) (ds : List D) (m : α) (Q : SV → α → Prop) (Ep : Exc → α → Prop), E.R = R → E.nl = true → (∃ cdv A outer s H W, X = cxOf (L2.CX P w) P w K mg base N qual (defScope st) f cdv A outer s H W) → X.A.guards = some [] → Room k X.A →
      Xc X E (fun e ρ => Ep e ρ.g) → sp ds m Q Ep → ∃ wb, QSs X E (defBody st) wb ∧ wb { nx := fun ρ => Q (.fz .non) ρ.g, rt := Q } (startP N.length ds m)) :
    FnOkG P w K mg base (L2.CX P w) (k + 1) f fd ps (lsp R sp) := by
  have arity : ∀ vs H Q E, lsp R sp vs H Q E → vs.length = ps.length := fun vs H Q E h => by
    obtain ⟨F0, m, ds, Qp, Ep, a, hs, _, _⟩ := h
    rw [a.rp.len, len _ _ _ _ hs]
  refine ⟨arity, fun A out s H ar us vs Q E hg hr e0 hb r hsp => ?_⟩
  obtain ⟨oc, od, kV, doc, pm, an, cdv, ct, osl, rfl, lk, hcd⟩ := F.ex
  have hl := arity _ _ _ _ hsp
  have KX : K.In s.heap := e0.mod.kin.keeps fun b o e => (e0.bs b o e).1
  have lim : s.heap.NoLimit := e0.mod.nolimit.keeps fun b o e => (e0.bs b o e).1
  refine codeAny_call_function hr.depth (KX _ _ lk) rfl S.co S.gen rfl (PySem.W.codeRec_of KX hcd) (hb _ _ _ _ ?_)
  refine wpAny_newFunctionEnv_cells S.kind (fun y hy => ?_) fun env he s1 x => ?_
  · rcases S.par y.1 (List.of_mem_zip hy).1 with q | q
    · exact .inl q
    · exact .inr ⟨q, PySem.W.cellsFrom_some _ _ _ (.inl q)⟩
  subst he
  refine ⟨lim.keeps x.toInCall.keep, codeAny_func ?_⟩
  obtain ⟨F0, m, ds, Qp, Ep, a, hs, hQ, hE⟩ := hsp
  obtain ⟨wb, ht, hq⟩ := hbody (cxOf (L2.CX P w) P w K mg base N qual (defScope st) f cdv A out s H E) ⟨R, R.S m, F0, H, true⟩ ds m Qp Ep rfl rfl ⟨cdv, A, out, s, H, E, rfl⟩ hg (hr.deeper _)
    ⟨fun _ => E, fun σ pins H s e s' I c => passes_call (W := fun cls d _ H => E cls d H) (takes_of rfl rfl rfl rfl) (fun _ _ _ _ h => h) pins σ H s e s' I c, fun e ρ hk c d F1 H1 oa σ he o hx => hE e _ c d F1 H1 he (ends_xt o.o) hx⟩ hs
  have I := inv_start (CX := L2.CX P w) (P := P) (w := w) (K := K) (mg := mg) (base := base) (E := E) S hr.hd e0 hl r x
  have en : lS ⟨R, R.S m, F0, H, true⟩ wb { nx := fun _ H' => Q .non H', rt := Q } (L2.start N vs) H :=
    ⟨[], _, F0, _, _, start_ok a, hq, ⟨fun ρ' F' H' oa' σ' q s o => hQ _ _ _ F' H' q (ends_xt o.o) (by show Rp F' .non .non; unfold Rp; rfl), fun r m' v F' H' q s o rv => hQ _ _ _ F' H' q (ends_xt o) (rv_x rv), fun _ _ _ _ _ q => q.elim, fun _ _ _ _ _ q => q.elim⟩⟩
  refine wpAny_mono (ht.run [] s1 (L2.start N vs) H _ I en) (fun fl s' hs => ?_) fun e s' hs => hs
  cases fl with
  | ret u =>
    obtain ⟨v, σ', H', J, rv, q⟩ := hs
    exact ⟨v, H', J.os, J.bare, J.base, J.hok, rv, q⟩
  | next =>
    obtain ⟨σ', H', J, q⟩ := hs
    exact ⟨.non, H', J.os, J.bare, J.base, J.hok, rfl, q⟩
  | brk => exact hs.choose_spec.choose_spec.2.elim
  | cont => exact hs.choose_spec.choose_spec.2.elim
/-- no exception is wanted (a comprehension's block) -/
theorem Xc.no {X : Cx} {E : En α} : Xc X E (fun _ _ => False) :=
  ⟨fun _ => E0, fun σ pins H s e s' I c => by
    obtain ⟨_, _, _, _, _, _, _, _, _, _, _, _, z⟩ := c
    exact z.elim, fun e ρ hk c d F H oa σ h => h.elim⟩
end
/-! ### calls -/
section
variable {X : Cx} {E : En α} {e : Expr} {es : List Expr} {ws : WA α} {n k : Nat} {x : Str} {ps : List Str} {sp : PSp α} {Xp : Exc → PSt α → Prop} {p pos : Pos} {f : Addr} {fd : FuncData}
/-- a call: what slots hold is frozen -/
def wCall (sp : PSp α) (Xp : Exc → PSt α → Prop) (ws : WA α) : WE α := fun ρ Q => ws ρ fun ts ρ1 => fzA ts ρ1 fun ds ρ2 => sp ds ρ2.g (fun r m' => Q r.tv (ρ2.sg m')) (fun e m' => Xp e (ρ2.sg m'))
theorem Ok.args {hk : Hd} {ρ : PSt α} {F H : Hp} {oa : Nat → Option Addr} {σ : St} (o : Ok E hk ρ F H oa σ) {ds : List D} {vs : List V} (r : RpL F ds vs) : ArgsOk E.R F H ρ.g ds vs := ⟨o.sub, o.o.reg, o.o.rF, r⟩
theorem rv_tv {hk : Hd} {ρ : PSt α} {F H F' H' : Hp} {oa : Nat → Option Addr} {σ : St} {m' : α} {r : SV} {v : V} (o : Ok E hk ρ F H oa σ) (h : RvX E.R H ρ.g m' r v F' H') : TvOk E hk (ρ.sg m') r.tv v F' H' oa σ := by
  cases r with
  | fz d => exact h
  | ow d =>
    obtain ⟨a, e, w, f, ns, fr⟩ := h
    refine ⟨a, e, w, f, ns, ?_, fun i z => ?_, fun p hp z => ?_⟩
    · rcases fr with h | h
      · exact o.o.h0 h
      · exact (o.o.sE a h).symm
    · obtain ⟨h1, _, h3, _⟩ := o.own i a z
      exact fr.elim h1 h3
    · obtain ⟨h1, h2, _⟩ := o.o.hd p hp
      rw [z] at h1 h2
      rcases fr with h | h
      · rw [h1] at h; cases h
      · exact h2 h
/-- a call by position with what is wanted of an exception told by the slots -/
def tCallG (sp : Sp) (W : St → XK) (t : TA) : TE := fun σ H Q => t σ H fun vs H1 => sp vs H1 Q (W σ)
theorem run_GS {pins : List (Addr × Obj)} {σ : St} {H : Hp} {s : Shared} {Q : VK} {us : List Value} {vs : List V} {CX : CXT} {sp : Sp} {W : St → XK} (hg : X.A.guards = some []) (F : FnOkG X.prog X.w X.K X.mg X.base CX k f fd ps sp) (hr : Room k X.A) (hb : Binds X.K fd ps [])
    (hx : PassesAt CX X σ (W σ)) (I : Inv X pins σ H s) (r : Vals vs us) (h : sp vs H Q (W σ)) : wpAny (model X.prog X.w) X.A (call (.ref f) us) (EP X pins σ Q) X.xe s := by
  have hl := (F.len _ _ _ _ h).symm.trans r.length
  have b := hb s us I.kIn (by rw [List.append_nil]; exact hl.symm)
  rw [List.append_nil] at b
  refine wpAny_call (codeAny_mono (F.go X.A X.stack s H ⟨us, []⟩ _ _ Q (W σ) hg hr I.env0 b r h) fun res s' hq => ?_)
  cases res with
  | error er => exact hx pins H s er s' I hq
  | ok fl => cases fl <;> first | exact I.after hq | exact False.elim hq
theorem pe_callGS {CX : CXT} {sp : Sp} {W : St → XK} {t : TA} (hg : X.A.guards = some []) (F : FnOkG X.prog X.w X.K X.mg X.base CX k f fd ps sp) (hr : Room k X.A) (gl : Gl X x) (hm : X.mg x = some (.ref f)) (hk : PySem.W.keepIn X.K (.ref f) = true) (hb : Binds X.K fd ps [])
    (hx : ∀ σ, PassesAt CX X σ (W σ)) (ha : PA X (e :: es) t) (hdb : (x == ("__debug__" : Str)) = false := by decide) (he : starEach (e :: es) X.env = (false, eval e X.env) :: starEach es X.env := by rfl)
    (hpl : (backTo pos (starEach es X.env)).any (·.1) = false := by rfl) : PE X (.Call (.Name x p) (e :: es) [] pos) (tCallG sp W t) := by
  refine ⟨fun pins s σ H Q I h => wpAny_Call_Name_kw (ld_glob I gl hm ?_ hdb)⟩
  refine PySem.W.callWith_K (h₀ := X.base) I.ok.mod.kin hk (thn (ha.run pos pins s σ H _ I h) fun us s1 z => ?_) he hpl
  obtain ⟨vs, H1, I1, r, q⟩ := z
  exact ⟨I1.kIn, run_GS hg F hr hb (hx σ) I1 r q⟩
theorem pe_callGS0 {CX : CXT} {sp : Sp} {W : St → XK} (hg : X.A.guards = some []) (F : FnOkG X.prog X.w X.K X.mg X.base CX k f fd ps sp) (hr : Room k X.A) (gl : Gl X x) (hm : X.mg x = some (.ref f)) (hk : PySem.W.keepIn X.K (.ref f) = true) (hb : Binds X.K fd ps [])
    (hx : ∀ σ, PassesAt CX X σ (W σ)) (hdb : (x == ("__debug__" : Str)) = false := by decide) : PE X (.Call (.Name x p) [] [] pos) (tCallG sp W tNil) := by
  refine ⟨fun pins s σ H Q I h => wpAny_Call_Name_kw (ld_glob I gl hm ?_ hdb)⟩
  exact PySem.W.callWith_K0 I.kIn hk (run_GS (us := []) hg F hr hb (hx σ) I .nil h)
theorem lcall (xc : Xc X E Xp) {W : St → XK} (hW : ∀ e ρ hk c d F H oa σ, Xp e ρ → Ok E hk ρ F H oa σ → ExX e c d F → W σ c d H) {σ : St} {H : Hp} {Q : VK} (h : lE E (wCall sp Xp ws) σ H Q) :
    tCallG (lsp E.R sp) W (lA E n ws) σ H Q := by
  obtain ⟨hk, ρ, F, oa, Qp, o, hw, post⟩ := h
  refine ⟨hk, ρ, F, oa, _, o, hw, fun ts ρ1 vs F1 H1 oa1 q1 l1 s1 o1 tv => ?_⟩
  obtain ⟨ds, ρ2, F2, oa2, s2, o2, r2, l2, q2⟩ := fzA_ok o1 tv q1
  refine ⟨F2, ρ2.g, ds, _, _, o2.args r2, q2, fun r m' v F' H' q x rv => ?_, fun e m' c d F' H' q x ex => ?_⟩
  · exact post r.tv _ v F' H' oa2 q ((s1.trans s2).trans x.f) (o2.xt x) (rv_tv o2 rv)
  · exact hW e _ hk c d F' H' oa2 σ q (o2.xt x) ex
theorem q_call (c : CalP X.prog X.w X.K X.mg X.base E.R k x ps sp) (xc : Xc X E Xp) (hg : X.A.guards = some []) (hr : Room k X.A) (gl : Gl X x) (ha : QA X E (e :: es) n ws) (hdb : (x == ("__debug__" : Str)) = false := by decide)
    (he : starEach (e :: es) X.env = (false, eval e X.env) :: starEach es X.env := by rfl) (hpl : (backTo pos (starEach es X.env)).any (·.1) = false := by rfl) : QE X E (.Call (.Name x p) (e :: es) [] pos) (wCall sp Xp ws) := by
  obtain ⟨f, fd, F, hm, hk, hb⟩ := c.ex
  obtain ⟨W, hp, hW⟩ := xc.ex
  exact (pe_callGS hg F hr gl hm hk hb hp ha hdb he hpl).im fun _ _ _ h => lcall xc hW h
theorem q_call0 (c : CalP X.prog X.w X.K X.mg X.base E.R k x ps sp) (xc : Xc X E Xp) (hg : X.A.guards = some []) (hr : Room k X.A) (gl : Gl X x) (hdb : (x == ("__debug__" : Str)) = false := by decide) : QE X E (.Call (.Name x p) [] [] pos) (wCall sp Xp wNil) := by
  obtain ⟨f, fd, F, hm, hk, hb⟩ := c.ex
  obtain ⟨W, hp, hW⟩ := xc.ex
  refine (pe_callGS0 hg F hr gl hm hk hb hp hdb).im fun σ H Q h => ?_
  have := lcall (n := 0) xc hW h
  obtain ⟨hk, ρ, F, oa, Qp, o, hw, post⟩ := this
  exact post [] ρ [] F H oa hw rfl (Same.refl _) o rfl
end
end Pu

/-! operators over plain data -/
namespace Pu
open PySem L2 Ow
variable {X : Cx}
abbrev Gop := D → D → (Tv → Prop) → Prop
abbrev Rop := V → V → Hp → VK → Prop
/-- r does what g says -/
def Sm (r : R2) (g : Gop) : Prop := ∀ F H x y d1 d2 P Q, Sub F H → Vw F H d1 x → Vw F H d2 y → g d1 d2 P → (∀ t v F' H', P t → Grw F H F' H' → RsOk F H F' H' t v → Q v H') → r x y H Q
theorem OpS.mk' {f : Value → Value → Sem Value} {r : R2} {g : Gop} (h : OpR X f r) (s : Sm r g) : OpS X f g := ⟨⟨r, h, s⟩⟩
theorem rp_int {F : Hp} {i : Int} : Rp F (.int i) (.int i) := by unfold Rp; rfl
theorem rp_str {F : Hp} {i : Str} : Rp F (.str i) (.str i) := by unfold Rp; rfl
theorem rp_bl {F : Hp} {i : Bool} : Rp F (.bl i) (.bl i) := by unfold Rp; rfl
theorem rp_non {F : Hp} : Rp F .non .non := by unfold Rp; rfl
theorem rsi {F H : Hp} {i : Int} : RsOk F H F H (.fz (.int i)) (.int i) := rp_int (F := F)
theorem rss {F H : Hp} {i : Str} : RsOk F H F H (.fz (.str i)) (.str i) := rp_str (F := F)
theorem rsb {F H : Hp} {i : Bool} : RsOk F H F H (.fz (.bl i)) (.bl i) := rp_bl (F := F)
theorem rsn {F H : Hp} : RsOk F H F H (.fz .non) .non := rp_non (F := F)
theorem rsf {F H : Hp} {d : D} {v : V} (h : Rp F d v) : RsOk F H F H (.fz d) v := h
/-! ### ints -/
def gI (C : Int → Int → Prop) (f : Int → Int → Int) : Gop := fun a b P => match a, b with
  | .int i, .int j => C i j ∧ P (.fz (.int (f i j)))
  | _, _ => False
def gI0 (f : Int → Int → Int) : Gop := fun a b P => match a, b with
  | .int i, .int j => P (.fz (.int (f i j)))
  | _, _ => False
def gB0 (f : Int → Int → Bool) : Gop := fun a b P => match a, b with
  | .int i, .int j => P (.fz (.bl (f i j)))
  | _, _ => False
theorem sm_I {C : Int → Int → Prop} {f : Int → Int → Int} : Sm (rI C fun i j => .int (f i j)) (gI C f) := fun F H x y d1 d2 P Q s w1 w2 g post => by
  unfold gI at g
  split at g
  · exact ⟨_, _, vw_int w1, vw_int w2, g.1, post _ _ F H g.2 (Grw.refl s) rsi⟩
  · exact g.elim
theorem sm_I0 {f : Int → Int → Int} : Sm (rI0 fun i j => .int (f i j)) (gI0 f) := fun F H x y d1 d2 P Q s w1 w2 g post => by
  unfold gI0 at g
  split at g
  · exact ⟨_, _, vw_int w1, vw_int w2, post _ _ F H g (Grw.refl s) rsi⟩
  · exact g.elim
theorem sm_B0 {f : Int → Int → Bool} : Sm (rI0 fun i j => .bl (f i j)) (gB0 f) := fun F H x y d1 d2 P Q s w1 w2 g post => by
  unfold gB0 at g
  split at g
  · exact ⟨_, _, vw_int w1, vw_int w2, post _ _ F H g (Grw.refl s) rsb⟩
  · exact g.elim
abbrev gSub : Gop := gI0 fun i j => i - j
abbrev gAnd : Gop := gI0 fun i j => Builtin.bitAnd i j
abbrev gOr : Gop := gI0 fun i j => Builtin.bitOr i j
abbrev gXor : Gop := gI0 fun i j => Builtin.bitXor i j
abbrev gMod : Gop := gI (fun _ j => 0 < j) fun i j => i % j
abbrev gFdiv : Gop := gI CDiv fun i j => i / j
abbrev gShl : Gop := gI CPow fun i j => i * 2 ^ j.toNat
abbrev gShr : Gop := gI (fun _ j => 0 ≤ j) fun i j => i / 2 ^ j.toNat
abbrev gPow : Gop := gI CPow fun i j => i ^ j.toNat
abbrev gLt : Gop := gB0 fun i j => decide (i < j)
abbrev gLe : Gop := gB0 fun i j => decide (i ≤ j)
abbrev gGt : Gop := gB0 fun i j => decide (j < i)
abbrev gGe : Gop := gB0 fun i j => decide (j ≤ i)
theorem os_sub : OpS X (binaryOp .Sub) gSub := .mk' op_sub sm_I0
theorem os_and : OpS X (binaryOp .BitAnd) gAnd := .mk' op_and sm_I0
theorem os_or : OpS X (binaryOp .BitOr) gOr := .mk' op_or sm_I0
theorem os_xor : OpS X (binaryOp .BitXor) gXor := .mk' op_xor sm_I0
theorem os_mod : OpS X (binaryOp .Mod) gMod := .mk' op_mod sm_I
theorem os_fdiv : OpS X (binaryOp .FloorDiv) gFdiv := .mk' op_fdiv sm_I
theorem os_shl : OpS X (binaryOp .LShift) gShl := .mk' op_shl sm_I
theorem os_shr : OpS X (binaryOp .RShift) gShr := .mk' op_shr sm_I
theorem os_pow : OpS X (binaryOp .Pow) gPow := .mk' op_pow sm_I
theorem os_lt : OpS X (compareOp .Lt) gLt := .mk' op_lt sm_B0
theorem os_le : OpS X (compareOp .LtE) gLe := .mk' op_le sm_B0
theorem os_gt : OpS X (compareOp .Gt) gGt := .mk' op_gt sm_B0
theorem os_ge : OpS X (compareOp .GtE) gGe := .mk' op_ge sm_B0
/-! ### + and * -/
theorem sizeLine16 {n : Nat} (h : n ≤ 16000000) : n ≤ sizeLine := by rw [sizeLine_eq]; omega
def gAdd : Gop := fun a b P => match a, b with
  | .int i, .int j => P (.fz (.int (i + j)))
  | .str x, .str y => x.length + y.length ≤ 16000000 ∧ P (.fz (.str (x ++ y)))
  | .lst l, .lst m => l.length + m.length ≤ 16000000 ∧ P (.ow (.lst (l ++ m)))
  | .tup l, .tup m => l.length + m.length ≤ 16000000 ∧ P (.fz (.tup (l ++ m)))
  | _, _ => False
/-- a new frozen tuple -/
theorem rs_tup {F H : Hp} {p : Addr} {l : List D} {vs : List V} (s : Sub F H) (n : H p = none) (r : RpL F l vs) : Grw F H (upd F p (.tup vs)) (upd H p (.tup vs)) ∧ RsOk F H (upd F p (.tup vs)) (upd H p (.tup vs)) (.fz (.tup l)) (.ref p) := by
  have g := Grw.froz (o := .tup vs) s n
  refine ⟨g, ?_⟩
  show Rp _ (.tup l) _
  unfold Rp
  exact ⟨p, vs, rfl, upd_same, r.mono g.f⟩
theorem rs_lst {F H : Hp} {p : Addr} {l : List D} {vs : List V} (s : Sub F H) (n : H p = none) (r : RpL F l vs) : Grw F H F (upd H p (.lst vs)) ∧ RsOk F H F (upd H p (.lst vs)) (.ow (.lst l)) (.ref p) :=
  ⟨Grw.cell s n, p, rfl, ⟨vs, upd_same, r⟩, s.none n, n⟩
theorem os_add : OpS X (binaryOp .Add) gAdd := .mk' (((op_add.or op_add_str).or op_cat).or op_catA) fun F H x y d1 d2 P Q s w1 w2 g post => by
  unfold gAdd at g
  split at g
  · exact .inl (.inl (.inl ⟨_, _, vw_int w1, vw_int w2, post _ _ F H g (Grw.refl s) rsi⟩))
  · exact .inl (.inl (.inr ⟨_, _, vw_str w1, vw_str w2, sizeLine16 g.1, post _ _ F H g.2 (Grw.refl s) rss⟩))
  · obtain ⟨a, xs, e1, h1, r1⟩ := w1
    obtain ⟨b, ys, e2, h2, r2⟩ := w2
    refine .inl (.inr ⟨a, b, xs, ys, e1, e2, h1, h2, sizeLine16 (by rw [r1.len, r2.len]; exact g.1), fun p np => ?_⟩)
    obtain ⟨g1, g2⟩ := rs_lst s np (r1.app r2)
    exact post _ _ _ _ g.2 g1 g2
  · rename_i l m
    obtain ⟨a, xs, e1, f1, h1, r1⟩ := vw_tup w1 s
    obtain ⟨b, ys, e2, f2, h2, r2⟩ := vw_tup w2 s
    have z1 := r1.len
    have z2 := r2.len
    refine .inr ⟨a, b, xs, ys, e1, e2, SqT.of h1, SqT.of h2, sizeLine16 (by rw [z1, z2]; exact g.1), fun h => ?_, fun _ h => ?_, fun _ _ p np => ?_⟩
    · have : l = [] := List.length_eq_zero_iff.mp (by rw [← z1, h]; rfl)
      subst this
      refine post _ _ F H g.2 (Grw.refl s) (rsf ?_)
      unfold Rp
      exact ⟨b, ys, rfl, f2, r2⟩
    · have : m = [] := List.length_eq_zero_iff.mp (by rw [← z2, h]; rfl)
      subst this
      refine post _ _ F H g.2 (Grw.refl s) (rsf ?_)
      rw [List.append_nil]
      unfold Rp
      exact ⟨a, xs, rfl, f1, r1⟩
    · obtain ⟨g1, g2⟩ := rs_tup s np (r1.app r2)
      exact post _ _ _ _ g.2 g1 g2
  · exact g.elim
/-! ### data as the library's -/
mutual
def pdT : D → PyData
  | .bl b => .bool b
  | .int i => .int i
  | .str x => .str x
  | .tup l => .tuple (pdL l)
  | .lst l => .list (pdL l)
  | _ => .none
def pdL : List D → List PyData
  | [] => []
  | d :: l => pdT d :: pdL l
end
mutual
def plnT : D → Bool
  | .non => true
  | .bl _ => true
  | .int _ => true
  | .str x => PyData.strOk x
  | .tup l => plnL l
  | .lst l => plnL l
  | _ => false
def plnL : List D → Bool
  | [] => true
  | d :: l => plnT d && plnL l
end
theorem pdL_map (l : List D) : pdL l = l.map pdT := by
  induction l with
  | nil => rfl
  | cons d l ih => show pdT d :: pdL l = _; rw [ih]; rfl
theorem plnL_iff : ∀ {l : List D}, plnL l = true ↔ ∀ d ∈ l, plnT d = true
  | [] => by simp [plnL]
  | d :: l => by simp [plnL, plnL_iff (l := l)]
mutual
theorem rp_dp {K : PySem.W.Frag} {F H : Hp} (s : Sub F H) : ∀ {d : D} {v : V}, Rp F d v → plnT d = true → Dp K H v (pdT d)
  | .non, _, h, _ => by unfold Rp at h; subst h; exact .non
  | .bl _, _, h, _ => by unfold Rp at h; subst h; exact .bl _
  | .int _, _, h, _ => by unfold Rp at h; subst h; exact .int _
  | .str _, _, h, _ => by unfold Rp at h; subst h; exact .str _
  | .tup l, _, h, p => by
    unfold Rp at h
    obtain ⟨a, vs, e, ea, hs⟩ := h
    subst e
    exact .tup (SqT.of (s.tup ea)) (rpL_dp s hs (by simpa [plnT] using p))
  | .lst l, _, h, p => by
    unfold Rp at h
    obtain ⟨a, vs, e, ea, hs⟩ := h
    subst e
    exact .lst (SqL.of (s.lst ea)) (rpL_dp s hs (by simpa [plnT] using p))
  | .ty _, _, _, p => by simp [plnT] at p
  | .adr _, _, _, p => by simp [plnT] at p
  | .dct _ _, _, _, p => by simp [plnT] at p
  | .dcT _ _, _, _, p => by simp [plnT] at p
  | .obj _ _ _, _, _, p => by simp [plnT] at p
  | .ext _, _, _, p => by simp [plnT] at p
theorem rpL_dp {K : PySem.W.Frag} {F H : Hp} (s : Sub F H) : ∀ {l : List D} {vs : List V}, RpL F l vs → plnL l = true → DpAll K H vs (pdL l)
  | [], _, h, _ => by rw [h.isNil]; exact .nil
  | d :: l, _, h, p => by
    obtain ⟨x, r, e, h1, h2⟩ := h.uncons
    subst e
    have p : plnT d = true ∧ plnL l = true := by simpa [plnL] using p
    exact .cons (rp_dp s h1 p.1) (rpL_dp s h2 p.2)
end
theorem vw_dp {K : PySem.W.Frag} {F H : Hp} (s : Sub F H) {d : D} {v : V} (h : Vw F H d v) (p : plnT d = true) : Dp K H v (pdT d) := by
  cases d with
  | lst l =>
    obtain ⟨a, vs, e, ea, hs⟩ := h
    subst e
    exact .lst (SqL.of ea) (rpL_dp s hs (by simpa [plnT] using p))
  | dct _ _ => simp [plnT] at p
  | dcT _ _ => simp [plnT] at p
  | obj _ _ _ => simp [plnT] at p
  | _ => exact rp_dp s h p
mutual
theorem pln_lay : ∀ {d : D}, plnT d = true → (pdT d).canLay0 = true
  | .non, _ => rfl
  | .bl _, _ => rfl
  | .int _, _ => by simp [pdT, PyData.canLay0]
  | .str x, h => by simpa [pdT, PyData.canLay0, plnT] using h
  | .tup l, h => by
    have := plnL_lay (l := l) (by simpa [plnT] using h)
    simpa [pdT, PyData.canLay0] using this
  | .lst l, h => by
    have := plnL_lay (l := l) (by simpa [plnT] using h)
    simpa [pdT, PyData.canLay0] using this
  | .ty _, p => by simp [plnT] at p
  | .adr _, p => by simp [plnT] at p
  | .dct _ _, p => by simp [plnT] at p
  | .dcT _ _, p => by simp [plnT] at p
  | .obj _ _ _, p => by simp [plnT] at p
  | .ext _, p => by simp [plnT] at p
theorem plnL_lay : ∀ {l : List D}, plnL l = true → PyData.canLayAll0 (pdL l) = true
  | [], _ => rfl
  | d :: l, h => by
    have p : plnT d = true ∧ plnL l = true := by simpa [plnL] using h
    simp [pdL, PyData.canLayAll0, pln_lay p.1, plnL_lay p.2]
end
mutual
/-- how deep data is -/
def dpT : D → Nat
  | .tup l => dpL l + 1
  | .lst l => dpL l + 1
  | _ => 0
def dpL : List D → Nat
  | [] => 0
  | d :: l => max (dpT d) (dpL l)
end
mutual
theorem dp_le : ∀ (d : D), (pdT d).depth ≤ dpT d
  | .tup l => by
    have := dpL_le l
    simp [pdT, dpT, PyData.depth]
    omega
  | .lst l => by
    have := dpL_le l
    simp [pdT, dpT, PyData.depth]
    omega
  | .non => Nat.le_refl _
  | .bl _ => Nat.le_refl _
  | .int _ => Nat.le_refl _
  | .str _ => Nat.le_refl _
  | .ty _ => Nat.le_refl _
  | .adr _ => Nat.le_refl _
  | .dct _ _ => Nat.le_refl _
  | .dcT _ _ => Nat.le_refl _
  | .obj _ _ _ => Nat.le_refl _
  | .ext _ => Nat.le_refl _
theorem dpL_le : ∀ (l : List D), PyData.depthAll (pdL l) ≤ dpL l
  | [] => Nat.le_refl _
  | d :: l => by
    have h1 := dp_le d
    have h2 := dpL_le l
    simp [pdL, dpL, PyData.depthAll]
    omega
end
theorem dpL_of {l : List D} {n : Nat} (h : ∀ d ∈ l, dpT d ≤ n) : dpL l ≤ n := by
  induction l with
  | nil => exact Nat.zero_le _
  | cons d l ih =>
    have h1 := h d List.mem_cons_self
    have h2 := ih fun e he => h e (List.mem_cons_of_mem _ he)
    show max (dpT d) (dpL l) ≤ n
    omega
/-- data that == may be asked of -/
structure Plain (d : D) : Prop where
  p : plnT d = true
  n : dpT d ≤ 60
theorem Plain.shaped {d : D} (h : Plain d) : SeqAt.shaped (pdT d) = true := by
  have h1 := pln_lay h.p
  have h2 := dp_le d
  have h3 := h.n
  have : (pdT d).depth ≤ 64 := by omega
  simp [SeqAt.shaped, h1, this]
/-! ### == -/
def gEq : Gop := fun a b P => match a, b with
  | .int i, .int j => P (.fz (.bl (decide (i = j))))
  | .str x, .str y => P (.fz (.bl (decide (x = y))))
  | .bl x, .bl y => P (.fz (.bl (decide (x = y))))
  | a, b => Plain a ∧ Plain b ∧ P (.fz (.bl (PyData.eqv (pdT a) (pdT b))))
def gNe : Gop := fun a b P => match a, b with
  | .int i, .int j => P (.fz (.bl (!decide (i = j))))
  | .str x, .str y => P (.fz (.bl (!decide (x = y))))
  | .bl x, .bl y => P (.fz (.bl (!decide (x = y))))
  | a, b => Plain a ∧ Plain b ∧ P (.fz (.bl (!PyData.eqv (pdT a) (pdT b))))
theorem dec_vi {i j : Int} : decide (V.int i = V.int j) = decide (i = j) := by simp
theorem dec_vs {i j : Str} : decide (V.str i = V.str j) = decide (i = j) := by simp
theorem dec_vb {i j : Bool} : decide (V.bl i = V.bl j) = decide (i = j) := by simp
theorem os_eq (hu : X.A.units + 64 < cLine) : OpS X (compareOp .Eq) gEq := .mk' (op_eq.or (op_eqD hu)) fun F H x y d1 d2 P Q s w1 w2 g post => by
  unfold gEq at g
  split at g
  · have e1 := vw_int w1
    have e2 := vw_int w2
    subst e1 e2
    exact .inl ⟨rfl, by rw [dec_vi]; exact post _ _ F H g (Grw.refl s) rsb⟩
  · have e1 := vw_str w1
    have e2 := vw_str w2
    subst e1 e2
    exact .inl ⟨rfl, by rw [dec_vs]; exact post _ _ F H g (Grw.refl s) rsb⟩
  · have e1 := vw_bl w1
    have e2 := vw_bl w2
    subst e1 e2
    exact .inl ⟨rfl, by rw [dec_vb]; exact post _ _ F H g (Grw.refl s) rsb⟩
  · exact .inr ⟨_, _, vw_dp s w1 g.1.p, vw_dp s w2 g.2.1.p, g.1.shaped, g.2.1.shaped, post _ _ F H g.2.2 (Grw.refl s) rsb⟩
theorem os_ne (hu : X.A.units + 64 < cLine) : OpS X (compareOp .NotEq) gNe := .mk' (op_ne.or (op_neD hu)) fun F H x y d1 d2 P Q s w1 w2 g post => by
  unfold gNe at g
  split at g
  · have e1 := vw_int w1
    have e2 := vw_int w2
    subst e1 e2
    exact .inl ⟨rfl, by rw [dec_vi]; exact post _ _ F H g (Grw.refl s) rsb⟩
  · have e1 := vw_str w1
    have e2 := vw_str w2
    subst e1 e2
    exact .inl ⟨rfl, by rw [dec_vs]; exact post _ _ F H g (Grw.refl s) rsb⟩
  · have e1 := vw_bl w1
    have e2 := vw_bl w2
    subst e1 e2
    exact .inl ⟨rfl, by rw [dec_vb]; exact post _ _ F H g (Grw.refl s) rsb⟩
  · exact .inr ⟨_, _, vw_dp s w1 g.1.p, vw_dp s w2 g.2.1.p, g.1.shaped, g.2.1.shaped, post _ _ F H g.2.2 (Grw.refl s) rsb⟩
/-! ### is -/
def isN : D → Option Bool
  | .non => some true
  | .ext _ => none
  | _ => some false
theorem isN_ok {F H : Hp} {d : D} {v : V} {b : Bool} (w : Vw F H d v) (e : isN d = some b) : decide (v = .non) = b := by
  cases d with
  | non => rw [vw_non w]; cases e; rfl
  | ext _ => cases e
  | bl _ => rw [vw_bl w]; cases e; rfl
  | int _ => rw [vw_int w]; cases e; rfl
  | str _ => rw [vw_str w]; cases e; rfl
  | ty _ => have w : Rp F _ v := w; unfold Rp at w; rw [w]; cases e; rfl
  | adr _ => have w : Rp F _ v := w; unfold Rp at w; rw [w]; cases e; rfl
  | tup l => have w : Rp F _ v := w; unfold Rp at w; obtain ⟨a, vs, e1, _⟩ := w; rw [e1]; cases e; rfl
  | lst l => obtain ⟨a, vs, e1, _⟩ := w; rw [e1]; cases e; rfl
  | dct _ _ => obtain ⟨a, vs, e1, _⟩ := w; rw [e1]; cases e; rfl
  | dcT _ _ => obtain ⟨a, vs, e1, _⟩ := w; rw [e1]; cases e; rfl
  | obj _ _ _ => obtain ⟨a, dx, vs, e1, _⟩ := w; rw [e1]; cases e; rfl
def gIs : Gop := fun a b P => match b, isN a with
  | .non, some c => P (.fz (.bl c))
  | _, _ => False
def gIsNot : Gop := fun a b P => match b, isN a with
  | .non, some c => P (.fz (.bl (!c)))
  | _, _ => False
theorem os_is : OpS X (compareOp .Is) gIs := .mk' op_isN fun F H x y d1 d2 P Q s w1 w2 g post => by
  unfold gIs at g
  split at g
  · rename_i c e
    refine ⟨vw_non w2, ?_⟩
    rw [isN_ok w1 e]
    exact post _ _ F H g (Grw.refl s) rsb
  · exact g.elim
theorem os_isNot : OpS X (compareOp .IsNot) gIsNot := .mk' op_notN fun F H x y d1 d2 P Q s w1 w2 g post => by
  unfold gIsNot at g
  split at g
  · rename_i c e
    refine ⟨vw_non w2, ?_⟩
    rw [isN_ok w1 e]
    exact post _ _ F H g (Grw.refl s) rsb
  · exact g.elim
end Pu

/-! membership, subscripts, slices, dicts over plain data -/
namespace Pu
open PySem L2 Ow
variable {X : Cx}
/-! ### dicts as keys and values -/
section
variable {κ : Type} [DecidableEq κ]
def dget : List κ → List D → κ → Option D
  | k :: ks, d :: l, x => if k = x then some d else dget ks l x
  | _, _, _ => none
/-- in its place, or at the end -/
def dset : List κ → List D → κ → D → List D
  | k :: ks, d :: l, x, y => if k = x then y :: l else d :: dset ks l x y
  | _, _, _, _ => []
def dputK (ks : List κ) (l : List D) (x : κ) : List κ := if x ∈ ks then ks else ks ++ [x]
def dputL (ks : List κ) (l : List D) (x : κ) (y : D) : List D := if x ∈ ks then dset ks l x y else l ++ [y]
theorem vget {F : Hp} {x : κ} : ∀ {ks : List κ} {l : List D} {vs : List V}, RpL F l vs → ks.length = vs.length → (dget ks l x = none → valV (ks.zip vs) x = none) ∧ ∀ d, dget ks l x = some d → ∃ v, valV (ks.zip vs) x = some v ∧ Rp F d v
  | [], l, vs, r, e => ⟨fun _ => rfl, fun d h => by simp [dget] at h⟩
  | k :: ks, [], vs, r, e => by
    rw [r.isNil] at e
    cases e
  | k :: ks, d :: l, vs, r, e => by
    obtain ⟨v, vs', ev, r1, r2⟩ := r.uncons
    subst ev
    obtain ⟨i1, i2⟩ := vget (x := x) r2 (by simpa using e)
    have z : (k :: ks).zip (v :: vs') = (k, v) :: ks.zip vs' := rfl
    rw [z]
    by_cases h : k = x
    · rw [valV_pos (p := (k, v)) h]
      refine ⟨fun q => ?_, fun d' q => ?_⟩
      · simp [dget, h] at q
      · simp only [dget, if_pos h, Option.some.injEq] at q
        subst q
        exact ⟨v, rfl, r1⟩
    · rw [valV_neg (p := (k, v)) h]
      refine ⟨fun q => ?_, fun d' q => ?_⟩
      · exact i1 (by simpa [dget, h] using q)
      · exact i2 d' (by simpa [dget, h] using q)
theorem zip_any {x : κ} : ∀ {ks : List κ} {vs : List V}, ks.length = vs.length → ((ks.zip vs).any fun kv => decide (kv.1 = x)) = decide (x ∈ ks)
  | [], _, _ => by simp
  | k :: ks, [], e => by cases e
  | k :: ks, v :: vs, e => by
    have ih := zip_any (x := x) (ks := ks) (vs := vs) (by simpa using e)
    have z : (k :: ks).zip (v :: vs) = (k, v) :: ks.zip vs := rfl
    rw [z, List.any_cons, ih]
    by_cases h : k = x
    · simp [h]
    · have h2 : ¬ x = k := fun q => h q.symm
      simp [h, h2]
theorem zip_app {ks : List κ} {vs : List V} {x : κ} {v : V} (e : ks.length = vs.length) : (ks ++ [x]).zip (vs ++ [v]) = ks.zip vs ++ [(x, v)] := by
  rw [List.zip_append e]
  rfl
theorem zip_miss {x : κ} {v : V} : ∀ {ks : List κ} {vs : List V}, x ∉ ks → (ks.zip vs).map (fun kv => if kv.1 = x then (kv.1, v) else kv) = ks.zip vs
  | [], _, _ => by simp
  | k :: ks, [], _ => by simp
  | k :: ks, w :: vs, h => by
    have h1 : ¬ k = x := fun z => h (by rw [z]; exact List.mem_cons_self)
    have h2 : x ∉ ks := fun z => h (List.mem_cons_of_mem _ z)
    show (if k = x then (k, v) else (k, w)) :: (ks.zip vs).map _ = _
    rw [if_neg h1, zip_miss h2]
    rfl
/-- keys all different: the value in its place -/
theorem vset {F : Hp} {x : κ} {y : D} {v : V} (ry : Rp F y v) : ∀ {ks : List κ} {l : List D} {vs : List V}, RpL F l vs → ks.length = vs.length → ks.Nodup → x ∈ ks →
    ∃ vs', (ks.zip vs).map (fun kv => if kv.1 = x then (kv.1, v) else kv) = ks.zip vs' ∧ ks.length = vs'.length ∧ RpL F (dset ks l x y) vs'
  | [], l, vs, r, e, nd, m => by cases m
  | k :: ks, [], vs, r, e, nd, m => by
    rw [r.isNil] at e
    cases e
  | k :: ks, d :: l, vs, r, e, nd, m => by
    obtain ⟨w, ws, ev, r1, r2⟩ := r.uncons
    subst ev
    obtain ⟨n1, n2⟩ := List.nodup_cons.mp nd
    have e' : ks.length = ws.length := by simpa using e
    by_cases h : k = x
    · subst h
      refine ⟨v :: ws, ?_, by simpa using e, ?_⟩
      · show (if k = k then (k, v) else (k, w)) :: (ks.zip ws).map _ = _
        rw [if_pos rfl, zip_miss n1]
        rfl
      · simp only [dset, if_pos rfl]
        exact RpL.cons ry r2
    · obtain ⟨vs', h1, h2, h3⟩ := vset ry r2 e' n2 ((List.mem_cons.mp m).elim (fun z => absurd z.symm h) id)
      refine ⟨w :: vs', ?_, by simpa using h2, ?_⟩
      · show (if k = x then (k, v) else (k, w)) :: (ks.zip ws).map _ = _
        rw [if_neg h, h1]
        rfl
      · simp only [dset, if_neg h]
        exact RpL.cons r1 h3
theorem vput {F : Hp} {x : κ} {y : D} {v : V} (ry : Rp F y v) {ks : List κ} {l : List D} {vs : List V} (r : RpL F l vs) (e : ks.length = vs.length) (nd : ks.Nodup) :
    ∃ vs', putK (ks.zip vs) x v = (dputK ks l x).zip vs' ∧ (dputK ks l x).length = vs'.length ∧ RpL F (dputL ks l x y) vs' := by
  unfold putK dputK dputL
  rw [zip_any e]
  by_cases m : x ∈ ks
  · rw [decide_eq_true m, if_pos rfl, if_pos m, if_pos m]
    exact vset ry r e nd m
  · rw [decide_eq_false m, if_neg Bool.false_ne_true, if_neg m, if_neg m]
    exact ⟨vs ++ [v], (zip_app e).symm, by simp [e], RpL.app r (RpL.one ry)⟩
end
/-- a key as data -/
def kD : Key → D
  | .inl i => .int i
  | .inr x => .str x
theorem kD_v {F : Hp} {k : Key} {v : V} (h : Rp F (kD k) v) : v = kV k := by
  cases k <;> (unfold kD Rp at h; exact h)
def dK? : D → Option Key
  | .int i => some (.inl i)
  | .str x => some (.inr x)
  | _ => none
theorem dK_v {F H : Hp} {d : D} {k : Key} {v : V} (w : Vw F H d v) (e : dK? d = some k) : v = kV k := by
  cases d <;> simp [dK?] at e
  · subst e; exact vw_int w
  · subst e; exact vw_str w
/-- a tuple of keys -/
def dKs? : D → Option (List Key)
  | .tup l => l.mapM dK?
  | _ => none
theorem mapM_kv {F : Hp} : ∀ {l : List D} {ks : List Key} {vs : List V}, l.mapM dK? = some ks → RpL F l vs → vs = ks.map kV
  | [], ks, vs, e, r => by
    have e : ([] : List D).mapM dK? = some ks := e
    simp at e
    subst e
    rw [r.isNil]
    rfl
  | d :: l, ks, vs, e, r => by
    obtain ⟨v, ws, ev, r1, r2⟩ := r.uncons
    subst ev
    rw [List.mapM_cons] at e
    cases h1 : dK? d with
    | none => rw [h1] at e; cases e
    | some k =>
      rw [h1] at e
      cases h2 : l.mapM dK? with
      | none => rw [h2] at e; cases e
      | some ks' =>
        rw [h2] at e
        cases e
        rw [mapM_kv h2 r2]
        have : v = kV k := by
          cases d <;> simp [dK?] at h1
          · subst h1; unfold Rp at r1; exact r1
          · subst h1; unfold Rp at r1; exact r1
        rw [this]
        rfl
/-- what d[k] is -/
def getD? (d k : D) : Option (Option D) := match d with
  | .dct ks l => (dK? k).map fun x => dget ks l x
  | .dcT ks l => (dKs? k).map fun x => dget ks l x
  | _ => none
theorem vw_get {F H : Hp} {d k : D} {x y : V} {o : Option D} (s : Sub F H) (w : Vw F H d x) (wk : Vw F H k y) (e : getD? d k = some o) : ∃ a ov, x = .ref a ∧ DGet H a y ov ∧ IsD H a ∧ (o = none → ov = none) ∧ ∀ z, o = some z → ∃ v, ov = some v ∧ Rp F z v := by
  cases d <;> simp only [getD?] at e <;> try cases e
  · rename_i ks l
    obtain ⟨a, vs, e1, hr, hl, r⟩ := w
    subst e1
    cases q : dK? k with
    | none => rw [q] at e; cases e
    | some kk =>
      rw [q] at e
      cases e
      obtain ⟨g1, g2⟩ := vget (x := kk) r hl
      refine ⟨a, _, rfl, .inl ⟨_, kk, hr, dK_v wk q, rfl⟩, .inl ⟨_, hr⟩, g1, g2⟩
  · rename_i ks l
    obtain ⟨a, vs, e1, hr, hl, r⟩ := w
    subst e1
    cases q : dKs? k with
    | none => rw [q] at e; cases e
    | some kk =>
      rw [q] at e
      cases e
      cases k <;> simp only [dKs?] at q <;> try cases q
      rename_i tl
      obtain ⟨b, bs, e2, _, hb, rb⟩ := vw_tup wk s
      obtain ⟨g1, g2⟩ := vget (x := kk) r hl
      refine ⟨a, _, rfl, .inr ⟨_, kk, b, hr, e2, ?_, rfl⟩, .inr ⟨_, hr⟩, g1, g2⟩
      rw [← mapM_kv q rb]
      exact hb
/-! ### in, not in -/
theorem op_dinR (hu : X.A.units + 1 < cLine) : OpR X (compareOp .In) (fun x y H Q => ∃ a o, y = .ref a ∧ DGet H a x o ∧ Q (.bl o.isSome) H) := by
  intro pins s σ H x y v u Q I rx ry h
  obtain ⟨a, o, ey, g, q⟩ := h
  subst ey
  obtain rfl : u = Value.ref a := ry
  exact d_in hu I g rx fun s3 I3 => ⟨.bl o.isSome, H, I3, rfl, q⟩
theorem op_dninR (hu : X.A.units + 1 < cLine) : OpR X (compareOp .NotIn) (fun x y H Q => ∃ a o, y = .ref a ∧ DGet H a x o ∧ Q (.bl (!o.isSome)) H) := by
  intro pins s σ H x y v u Q I rx ry h
  obtain ⟨a, o, ey, g, q⟩ := h
  subst ey
  obtain rfl : u = Value.ref a := ry
  exact d_notIn hu I g rx fun s3 I3 => ⟨.bl (!o.isSome), H, I3, rfl, q⟩
/-- what `a in b` is: texts or ints among such, a key of a dict, any data among such, a sign of a text -/
inductive InD : D → D → Bool → Prop
  | txt (x : Str) (ws : List Str) : InD (.str x) (.lst (ws.map .str)) (decide (x ∈ ws))
  | txtT (x : Str) (ws : List Str) : InD (.str x) (.tup (ws.map .str)) (decide (x ∈ ws))
  | num (x : Int) (ws : List Int) : InD (.int x) (.lst (ws.map .int)) (decide (x ∈ ws))
  | numT (x : Int) (ws : List Int) : InD (.int x) (.tup (ws.map .int)) (decide (x ∈ ws))
  | key {d k : D} {o : Option D} (h : getD? d k = some o) : InD k d o.isSome
  | any {a : D} {l : List D} (h1 : Plain a) (h2 : Plain (.lst l)) : InD a (.lst l) (l.any fun z => PyData.eqv (pdT z) (pdT a))
  | anyT {a : D} {l : List D} (h1 : Plain a) (h2 : Plain (.tup l)) : InD a (.tup l) (l.any fun z => PyData.eqv (pdT z) (pdT a))
  | sign (c : Nat) (z : Str) : InD (.str ⟨#[c]⟩) (.str z) (decide (c ∈ z.cps.toList))
def gIn : Gop := fun a b P => ∃ c, InD a b c ∧ P (.fz (.bl c))
def gNin : Gop := fun a b P => ∃ c, InD a b c ∧ P (.fz (.bl (!c)))
theorem inV_str (x : Str) (ws : List Str) : inV (V.str x) (ws.map V.str) = decide (x ∈ ws) := by
  unfold inV
  induction ws with
  | nil => rfl
  | cons y ws ih =>
    rw [List.map_cons, List.any_cons, ih]
    show ((y == x) || decide (x ∈ ws)) = _
    by_cases c : y = x
    · subst c; simp
    · have c2 : ¬ x = y := fun z => c z.symm
      simp [c, c2]
theorem inV_int (x : Int) (ws : List Int) : inV (V.int x) (ws.map V.int) = decide (x ∈ ws) := by
  unfold inV
  induction ws with
  | nil => rfl
  | cons y ws ih =>
    rw [List.map_cons, List.any_cons, ih]
    show ((y == x) || decide (x ∈ ws)) = _
    by_cases c : y = x
    · subst c; simp
    · have c2 : ¬ x = y := fun z => c z.symm
      simp [c, c2]
theorem fl_str (ws : List Str) : (ws.map V.str).all flatV = true := by
  induction ws with
  | nil => rfl
  | cons y ws ih => simp [List.all_cons, flatV, ih]
theorem fl_int (ws : List Int) : (ws.map V.int).all flatV = true := by
  induction ws with
  | nil => rfl
  | cons y ws ih => simp [List.all_cons, flatV, ih]
theorem any_pd (l : List D) (a : PyData) : ((pdL l).any fun z => PyData.eqv z a) = l.any fun z => PyData.eqv (pdT z) a := by
  rw [pdL_map, List.any_map]
  rfl
/-- what the library asks for a in b, c the answer -/
def rInX (K : PySem.W.Frag) (neg : Bool) : R2 := fun x y H Q => rIn K neg x y H Q ∨ (∃ d ds, Dp K H x d ∧ (Dp K H y (.list ds) ∧ SeqAt.shaped (.list ds) = true ∨ Dp K H y (.tuple ds) ∧ SeqAt.shaped (.tuple ds) = true) ∧ SeqAt.shaped d = true ∧ Q (.bl (if neg then !(ds.any fun z => PyData.eqv z d) else ds.any fun z => PyData.eqv z d)) H) ∨
  (∃ a o, y = .ref a ∧ DGet H a x o ∧ Q (.bl (if neg then !o.isSome else o.isSome)) H) ∨ ∃ (c : Nat) (z : Str), x = .str ⟨#[c]⟩ ∧ y = .str z ∧ Q (.bl (if neg then !decide (c ∈ z.cps.toList) else decide (c ∈ z.cps.toList))) H
theorem op_inX (hu : X.A.units + 65 < cLine) : OpR X (compareOp .In) (rInX X.K false) := by
  intro pins s σ H x y v u Q I rx ry h
  rcases h with h | ⟨d, ds, h1, h2, h3, q⟩ | ⟨a, o, h1, h2, q⟩ | ⟨c, z, h1, h2, q⟩
  · exact op_in_seq pins s σ H x y v u Q I rx ry h
  · rcases h2 with ⟨h2, h4⟩ | ⟨h2, h4⟩
    · exact op_inD hu pins s σ H x y v u Q I rx ry ⟨d, ds, h1, h2, h3, h4, q⟩
    · exact op_inT hu pins s σ H x y v u Q I rx ry ⟨d, ds, h1, h2, h3, h4, q⟩
  · exact op_dinR (by omega) pins s σ H x y v u Q I rx ry ⟨a, o, h1, h2, q⟩
  · exact op_in_sign pins s σ H x y v u Q I rx ry ⟨c, z, h1, h2, q⟩
theorem op_ninX (hu : X.A.units + 65 < cLine) : OpR X (compareOp .NotIn) (rInX X.K true) := by
  intro pins s σ H x y v u Q I rx ry h
  rcases h with h | ⟨d, ds, h1, h2, h3, q⟩ | ⟨a, o, h1, h2, q⟩ | ⟨c, z, h1, h2, q⟩
  · exact op_notIn_seq pins s σ H x y v u Q I rx ry h
  · rcases h2 with ⟨h2, h4⟩ | ⟨h2, h4⟩
    · exact op_notInD hu pins s σ H x y v u Q I rx ry ⟨d, ds, h1, h2, h3, h4, q⟩
    · exact op_notInT hu pins s σ H x y v u Q I rx ry ⟨d, ds, h1, h2, h3, h4, q⟩
  · exact op_dninR (by omega) pins s σ H x y v u Q I rx ry ⟨a, o, h1, h2, q⟩
  · exact op_notIn_sign pins s σ H x y v u Q I rx ry ⟨c, z, h1, h2, q⟩
theorem sm_in {K : PySem.W.Frag} {neg : Bool} {F H : Hp} {x y : V} {a b : D} {c : Bool} {Q : VK} (s : Sub F H) (w1 : Vw F H a x) (w2 : Vw F H b y) (h : InD a b c) (q : Q (.bl (if neg then !c else c)) H) : rInX K neg x y H Q := by
  cases h with
  | txt x ws =>
    obtain ⟨p, vs, e, hp, r⟩ := w2
    have e1 := vw_str w1
    have e2 := r.strsV
    subst e e1 e2
    exact .inl ⟨p, _, rfl, .inl (SqL.of hp), rfl, fl_str ws, by rw [inV_str]; exact q⟩
  | txtT x ws =>
    obtain ⟨p, vs, e, _, hp, r⟩ := vw_tup w2 s
    have e1 := vw_str w1
    have e2 := r.strsV
    subst e e1 e2
    exact .inl ⟨p, _, rfl, .inr (SqT.of hp), rfl, fl_str ws, by rw [inV_str]; exact q⟩
  | num x ws =>
    obtain ⟨p, vs, e, hp, r⟩ := w2
    have e1 := vw_int w1
    have e2 := r.intsV
    subst e e1 e2
    exact .inl ⟨p, _, rfl, .inl (SqL.of hp), rfl, fl_int ws, by rw [inV_int]; exact q⟩
  | numT x ws =>
    obtain ⟨p, vs, e, _, hp, r⟩ := vw_tup w2 s
    have e1 := vw_int w1
    have e2 := r.intsV
    subst e e1 e2
    exact .inl ⟨p, _, rfl, .inr (SqT.of hp), rfl, fl_int ws, by rw [inV_int]; exact q⟩
  | key h =>
    rename_i o
    obtain ⟨a', ov, e, g, _, h1, h2⟩ := vw_get s w2 w1 h
    refine .inr (.inr (.inl ⟨a', ov, e, g, ?_⟩))
    have : ov.isSome = o.isSome := by
      cases o with
      | none =>
        rw [h1 rfl]
        rfl
      | some z =>
        obtain ⟨v, e, _⟩ := h2 z rfl
        rw [e]
        rfl
    rw [this]
    exact q
  | any h1 h2 =>
    refine .inr (.inl ⟨_, _, vw_dp s w1 h1.p, .inl ⟨vw_dp s w2 h2.p, h2.shaped⟩, h1.shaped, ?_⟩)
    rw [any_pd]
    exact q
  | anyT h1 h2 =>
    refine .inr (.inl ⟨_, _, vw_dp s w1 h1.p, .inr ⟨vw_dp s w2 h2.p, h2.shaped⟩, h1.shaped, ?_⟩)
    rw [any_pd]
    exact q
  | sign c z => exact .inr (.inr (.inr ⟨c, z, vw_str w1, vw_str w2, q⟩))
theorem os_in (hu : X.A.units + 65 < cLine) : OpS X (compareOp .In) gIn := .mk' (op_inX hu) fun F H x y d1 d2 P Q s w1 w2 g post => by
  obtain ⟨c, h, g⟩ := g
  exact sm_in s w1 w2 h (post _ _ F H g (Grw.refl s) rsb)
theorem os_nin (hu : X.A.units + 65 < cLine) : OpS X (compareOp .NotIn) gNin := .mk' (op_ninX hu) fun F H x y d1 d2 P Q s w1 w2 g post => by
  obtain ⟨c, h, g⟩ := g
  exact sm_in (neg := true) s w1 w2 h (post _ _ F H g (Grw.refl s) rsb)
/-! ### subscripts -/
def gIx : Gop := fun a b P => match a, b with
  | .lst l, .int i => ∃ d, atI l i = some d ∧ P (.fz d)
  | .tup l, .int i => ∃ d, atI l i = some d ∧ P (.fz d)
  | .str z, .int i => z.length ≤ 16000000 ∧ ∃ c, atI z.cps.toList i = some c ∧ P (.fz (.str ⟨#[c]⟩))
  | _, _ => False
theorem at_rp {F : Hp} {l : List D} {vs : List V} {i : Int} {d : D} (r : RpL F l vs) (e : atI l i = some d) : ∃ v, atI vs i = some v ∧ Rp F d v := by
  unfold atI at e ⊢
  rw [r.len]
  cases q : ixN l.length i with
  | none => rw [q] at e; cases e
  | some j =>
    rw [q] at e
    exact r.get e
variable {α : Type} {E : En α} {a b e : Expr} {wa wb we : WE α} {pos : Pos}
theorem q_ix (ha : QE X E a wa) (hb : QE X E b wb) (hs : PlainIx b) : QE X E (.Subscript a b pos) (wOp gIx wa wb) :=
  (pe_ix ((ix_list.or ix_tup).or ix_str) ha hb hs).im fun _ _ _ h => lop (fun F H x y d1 d2 P Q s w1 w2 g post => by
    unfold gIx at g
    split at g
    · obtain ⟨d, e, g⟩ := g
      obtain ⟨p, vs, e1, hp, r⟩ := w1
      have e2 := vw_int w2
      subst e1 e2
      obtain ⟨v, ev, rv⟩ := at_rp r e
      exact .inl (.inl ⟨p, vs, _, v, rfl, rfl, SqL.of hp, ev, post _ _ F H g (Grw.refl s) (rsf rv)⟩)
    · obtain ⟨d, e, g⟩ := g
      obtain ⟨p, vs, e1, _, hp, r⟩ := vw_tup w1 s
      have e2 := vw_int w2
      subst e1 e2
      obtain ⟨v, ev, rv⟩ := at_rp r e
      exact .inl (.inr ⟨p, vs, _, v, rfl, rfl, SqT.of hp, ev, post _ _ F H g (Grw.refl s) (rsf rv)⟩)
    · obtain ⟨hz, c, e, g⟩ := g
      exact .inr ⟨_, _, c, vw_str w1, vw_int w2, sizeLine16 hz, e, post _ _ F H g (Grw.refl s) rss⟩
    · exact g.elim) h
def gDg : Gop := fun a b P => ∃ d, getD? a b = some (some d) ∧ P (.fz d)
theorem q_dg (hu : X.A.units + 1 < cLine) (ha : QE X E a wa) (hb : QE X E b wb) (hs : NoSl b) : QE X E (.Subscript a b pos) (wOp gDg wa wb) :=
  (pe_dget hu ha hb hs).im fun σ H Q h => by
    have := lop (r := fun x y H Q => ∃ a v, x = .ref a ∧ DGet H a y (some v) ∧ Q v H) (fun F H x y d1 d2 P Q s w1 w2 g post => by
      obtain ⟨d, e, g⟩ := g
      obtain ⟨a, ov, e1, dg, _, _, h2⟩ := vw_get s w1 w2 e
      obtain ⟨v, ev, rv⟩ := h2 d rfl
      subst ev
      exact ⟨a, v, e1, dg, post _ _ F H g (Grw.refl s) (rsf rv)⟩) h
    exact this
end Pu

/-! calls of builtins, slices, older promises over plain data -/
namespace Pu
open PySem L2 Ow
variable {X : Cx}
abbrev Gcl := List D → (Tv → Prop) → Prop
/-- r does what g says -/
def SmC (r : List V → Hp → VK → Prop) (g : Gcl) : Prop := ∀ F H xs ds P Q, Sub F H → VwL F H ds xs → g ds P → (∀ t v F' H', P t → Grw F H F' H' → RsOk F H F' H' t v → Q v H') → r xs H Q
theorem ClS.mk' {f : Value} {r : List V → Hp → VK → Prop} {g : Gcl} (h : CallR X f r) (s : SmC r g) : ClS X f g := ⟨⟨r, h, s⟩⟩
/-! ### len -/
theorem call_lenR : CallR X (.builtin "len") (fun xs H Q => ∃ a kvs, xs = [V.ref a] ∧ Rd H a (.dK kvs) ∧ Q (.int kvs.length) H) := by
  intro pins s σ H xs us Q I r h
  obtain ⟨a, kvs, rfl, ha, q⟩ := h
  obtain ⟨u, rfl, ru⟩ := vals1 r
  cases ru
  exact d_len I ha fun t s' I' => ⟨.int kvs.length, H, I', ⟨t, rfl⟩, q⟩
def gLen : Gcl := fun ds P => match ds with
  | [.lst l] => P (.fz (.int l.length))
  | [.tup l] => P (.fz (.int l.length))
  | [.str z] => z.length ≤ 16000000 ∧ P (.fz (.int z.length))
  | [.dct ks _] => P (.fz (.int ks.length))
  | _ => False
theorem cs_len : ClS X (.builtin "len") gLen := .mk' ((call_len_seq.or call_len_str).or call_lenR) fun F H xs ds P Q s w g post => by
  unfold gLen at g
  split at g
  · obtain ⟨x, e, w⟩ := w.one
    obtain ⟨a, vs, e1, h1, r⟩ := w
    subst e e1
    exact .inl (.inl ⟨a, vs, rfl, .inl (SqL.of h1), by rw [r.len]; exact post _ _ F H g (Grw.refl s) rsi⟩)
  · obtain ⟨x, e, w⟩ := w.one
    obtain ⟨a, vs, e1, _, h1, r⟩ := vw_tup w s
    subst e e1
    exact .inl (.inl ⟨a, vs, rfl, .inr (SqT.of h1), by rw [r.len]; exact post _ _ F H g (Grw.refl s) rsi⟩)
  · obtain ⟨x, e, w⟩ := w.one
    have e1 := vw_str w
    subst e e1
    exact .inl (.inr ⟨_, rfl, sizeLine16 g.1, post _ _ F H g.2 (Grw.refl s) rsi⟩)
  · obtain ⟨x, e, w⟩ := w.one
    obtain ⟨a, vs, e1, h1, hl, r⟩ := w
    subst e e1
    refine .inr ⟨a, _, rfl, h1, ?_⟩
    rw [List.length_zip, ← hl, Nat.min_self]
    exact post _ _ F H g (Grw.refl s) rsi
  · exact g.elim
/-! ### isinstance with a builtin type -/
def tyD : D → Option String
  | .non => some "NoneType"
  | .bl _ => some "bool"
  | .int _ => some "int"
  | .str _ => some "str"
  | .tup _ => some "tuple"
  | .lst _ => some "list"
  | .dct _ _ => some "dict"
  | _ => none
/-- of the common builtin types -/
def isD (n : String) (d : D) : Option Bool := match d with
  | .non => if n = "tuple" ∨ n = "str" ∨ n = "int" ∨ n = "bool" ∨ n = "list" ∨ n = "dict" then some false else none
  | .bl _ => if n = "int" ∨ n = "bool" then some true else if n = "tuple" ∨ n = "str" ∨ n = "list" ∨ n = "dict" then some false else none
  | .int _ => if n = "int" then some true else if n = "tuple" ∨ n = "str" ∨ n = "bool" ∨ n = "list" ∨ n = "dict" then some false else none
  | .str _ => if n = "str" then some true else if n = "tuple" ∨ n = "int" ∨ n = "bool" ∨ n = "list" ∨ n = "dict" then some false else none
  | .tup _ => if n = "tuple" then some true else if n = "str" ∨ n = "int" ∨ n = "bool" ∨ n = "list" ∨ n = "dict" then some false else none
  | .lst _ => if n = "list" then some true else if n = "str" ∨ n = "int" ∨ n = "bool" ∨ n = "tuple" ∨ n = "dict" then some false else none
  | .dct _ _ => if n = "dict" then some true else if n = "str" ∨ n = "int" ∨ n = "bool" ∨ n = "tuple" ∨ n = "list" then some false else none
  | _ => none
theorem isD_ok {K : PySem.W.Frag} {n : String} {d : D} {b : Bool} (h : isD n d = some b) : ∃ a, tyD d = some a ∧ PySem.W.kitOne K (.type a) (.type n) = some b := by
  have go : ∀ a : String, tyD d = some a → kitB a n = some b → ∃ a, tyD d = some a ∧ PySem.W.kitOne K (.type a) (.type n) = some b := fun a e k => ⟨a, e, kit_ty k⟩
  cases d <;> simp only [isD] at h
  case non =>
    split at h
    · rename_i c
      cases h
      rcases c with rfl | rfl | rfl | rfl | rfl | rfl <;> exact go _ rfl (by decide +kernel)
    · cases h
  case bl =>
    split at h
    · rename_i c
      cases h
      rcases c with rfl | rfl <;> exact go _ rfl (by decide +kernel)
    split at h
    · rename_i c
      cases h
      rcases c with rfl | rfl | rfl | rfl <;> exact go _ rfl (by decide +kernel)
    · cases h
  all_goals first
    | cases h
    | (split at h
       · rename_i c
         cases h
         subst c
         exact go _ rfl (by decide +kernel)
       split at h
       · rename_i c
         cases h
         rcases c with rfl | rfl | rfl | rfl | rfl <;> exact go _ rfl (by decide +kernel)
       · cases h)
theorem tyD_ok {K : PySem.W.Frag} {F H : Hp} {d : D} {v : V} {a : String} (s : Sub F H) (w : Vw F H d v) (e : tyD d = some a) : TyX K H v (.type a) := by
  cases d <;> simp only [tyD] at e <;> cases e
  · rw [vw_non w]; exact .base .non
  · rw [vw_bl w]; exact .base (.bl _)
  · rw [vw_int w]; exact .base (.int _)
  · rw [vw_str w]; exact .base (.str _)
  · obtain ⟨p, vs, e1, _, h1, r⟩ := vw_tup w s
    subst e1
    exact .base (.tup h1)
  · obtain ⟨p, vs, e1, h1, r⟩ := w
    subst e1
    exact .base (.lst h1)
  · obtain ⟨p, vs, e1, h1, hl, r⟩ := w
    subst e1
    rcases h1 with h1 | ⟨o, h1⟩
    · exact .base (.dK h1)
    · exact .fDict h1
def gIsi : Gcl := fun ds P => match ds with
  | [d, .ty n] => ∃ b, isD n d = some b ∧ P (.fz (.bl b))
  | _ => False
theorem vw_ty {F H : Hp} {n : String} {v : V} (h : Vw F H (.ty n) v) : v = .ty n := by
  have h : Rp F (.ty n) v := h
  unfold Rp at h
  exact h
theorem cs_isi : ClS X (.builtin "isinstance") gIsi := .mk' call_isi fun F H xs ds P Q s w g post => by
  unfold gIsi at g
  split at g
  · obtain ⟨b, e, g⟩ := g
    obtain ⟨x, y, e1, w1, w2⟩ := w.two
    have e2 := vw_ty w2
    subst e1 e2
    obtain ⟨a, ea, k⟩ := isD_ok (K := X.K) e
    exact ⟨x, _, _, _, b, rfl, .ty _, tyD_ok s w1 ea, k, post _ _ F H g (Grw.refl s) rsb⟩
  · exact g.elim
/-! ### all, any, sum, max, min -/
def gAll : Gcl := fun ds P => match ds with
  | [.lst l] => ∃ bs : List Bool, l = bs.map .bl ∧ P (.fz (.bl (bs.all id)))
  | _ => False
def gAny : Gcl := fun ds P => match ds with
  | [.lst l] => ∃ bs : List Bool, l = bs.map .bl ∧ P (.fz (.bl (bs.any id)))
  | _ => False
def gSum : Gcl := fun ds P => match ds with
  | [.lst l] => ∃ ns : List Int, l = ns.map .int ∧ P (.fz (.int ns.sum))
  | _ => False
theorem cs_all (hc : X.calm = true) : ClS X (.builtin "all") gAll := .mk' (cr_all hc) fun F H xs ds P Q s w g post => by
  unfold gAll at g
  split at g
  · obtain ⟨bs, e, g⟩ := g
    obtain ⟨x, e1, w⟩ := w.one
    obtain ⟨a, vs, e2, h1, r⟩ := w
    subst e e1 e2
    have e3 := r.bls
    subst e3
    exact ⟨a, bs, rfl, SqL.of h1, post _ _ F H g (Grw.refl s) rsb⟩
  · exact g.elim
theorem cs_any (hc : X.calm = true) : ClS X (.builtin "any") gAny := .mk' (cr_any hc) fun F H xs ds P Q s w g post => by
  unfold gAny at g
  split at g
  · obtain ⟨bs, e, g⟩ := g
    obtain ⟨x, e1, w⟩ := w.one
    obtain ⟨a, vs, e2, h1, r⟩ := w
    subst e e1 e2
    have e3 := r.bls
    subst e3
    exact ⟨a, bs, rfl, SqL.of h1, post _ _ F H g (Grw.refl s) rsb⟩
  · exact g.elim
theorem cs_sum (hc : X.calm = true) : ClS X (.builtin "sum") gSum := .mk' (cr_sum hc) fun F H xs ds P Q s w g post => by
  unfold gSum at g
  split at g
  · obtain ⟨bs, e, g⟩ := g
    obtain ⟨x, e1, w⟩ := w.one
    obtain ⟨a, vs, e2, h1, r⟩ := w
    subst e e1 e2
    have e3 := r.intsV
    subst e3
    exact ⟨a, bs, rfl, SqL.of h1, post _ _ F H g (Grw.refl s) rsi⟩
  · exact g.elim
def gMax : Gcl := fun ds P => match ds with
  | [.lst l] => ∃ ns : List Int, l = ns.map .int ∧ 0 < ns.length ∧ ∀ m, m ∈ ns → (∀ y, y ∈ ns → y ≤ m) → P (.fz (.int m))
  | [.int i, .int j] => P (.fz (.int (if j > i then j else i)))
  | _ => False
def gMin : Gcl := fun ds P => match ds with
  | [.lst l] => ∃ ns : List Int, l = ns.map .int ∧ 0 < ns.length ∧ ∀ m, m ∈ ns → (∀ y, y ∈ ns → m ≤ y) → P (.fz (.int m))
  | [.int i, .int j] => P (.fz (.int (if j < i then j else i)))
  | _ => False
theorem cs_max (hc : X.calm = true) : ClS X (.builtin "max") gMax := .mk' ((cr_max hc).or (call_max2 hc)) fun F H xs ds P Q s w g post => by
  unfold gMax at g
  split at g
  · obtain ⟨bs, e, hp, g⟩ := g
    obtain ⟨x, e1, w⟩ := w.one
    obtain ⟨a, vs, e2, h1, r⟩ := w
    subst e e1 e2
    have e3 := r.intsV
    subst e3
    exact .inl ⟨a, bs, rfl, SqL.of h1, hp, fun m h2 h3 => post _ _ F H (g m h2 h3) (Grw.refl s) rsi⟩
  · obtain ⟨x, y, e1, w1, w2⟩ := w.two
    have e2 := vw_int w1
    have e3 := vw_int w2
    subst e1 e2 e3
    exact .inr ⟨_, _, rfl, post _ _ F H g (Grw.refl s) rsi⟩
  · exact g.elim
theorem cs_min (hc : X.calm = true) : ClS X (.builtin "min") gMin := .mk' ((cr_min hc).or (call_min2 hc)) fun F H xs ds P Q s w g post => by
  unfold gMin at g
  split at g
  · obtain ⟨bs, e, hp, g⟩ := g
    obtain ⟨x, e1, w⟩ := w.one
    obtain ⟨a, vs, e2, h1, r⟩ := w
    subst e e1 e2
    have e3 := r.intsV
    subst e3
    exact .inl ⟨a, bs, rfl, SqL.of h1, hp, fun m h2 h3 => post _ _ F H (g m h2 h3) (Grw.refl s) rsi⟩
  · obtain ⟨x, y, e1, w1, w2⟩ := w.two
    have e2 := vw_int w1
    have e3 := vw_int w2
    subst e1 e2 e3
    exact .inr ⟨_, _, rfl, post _ _ F H g (Grw.refl s) rsi⟩
  · exact g.elim
/-! ### list, tuple, int, bool, abs, str of an int -/
def gList : Gcl := fun ds P => match ds with
  | [.lst l] => P (.ow (.lst l))
  | [.tup l] => P (.ow (.lst l))
  | _ => False
theorem cs_list : ClS X (.type "list") gList := .mk' call_list_of fun F H xs ds P Q s w g post => by
  unfold gList at g
  split at g
  · obtain ⟨x, e, w⟩ := w.one
    obtain ⟨a, vs, e1, h1, r⟩ := w
    subst e e1
    refine ⟨a, vs, rfl, .inl (SqL.of h1), fun p np => ?_⟩
    obtain ⟨g1, g2⟩ := rs_lst s np r
    exact post _ _ _ _ g g1 g2
  · obtain ⟨x, e, w⟩ := w.one
    obtain ⟨a, vs, e1, _, h1, r⟩ := vw_tup w s
    subst e e1
    refine ⟨a, vs, rfl, .inr (SqT.of h1), fun p np => ?_⟩
    obtain ⟨g1, g2⟩ := rs_lst s np r
    exact post _ _ _ _ g g1 g2
  · exact g.elim
def gTuple : Gcl := fun ds P => match ds with
  | [.lst l] => P (.fz (.tup l))
  | [.tup l] => P (.fz (.tup l))
  | _ => False
theorem cs_tuple : ClS X (.type "tuple") gTuple := .mk' call_tuple_of fun F H xs ds P Q s w g post => by
  unfold gTuple at g
  split at g
  · obtain ⟨x, e, w⟩ := w.one
    obtain ⟨a, vs, e1, h1, r⟩ := w
    subst e e1
    refine ⟨a, vs, rfl, .inl ⟨SqL.of h1, fun p np => ?_⟩⟩
    obtain ⟨g1, g2⟩ := rs_tup s np r
    exact post _ _ _ _ g g1 g2
  · obtain ⟨x, e, w⟩ := w.one
    obtain ⟨a, vs, e1, f1, h1, r⟩ := vw_tup w s
    subst e e1
    refine ⟨a, vs, rfl, .inr ⟨SqT.of h1, post _ _ F H g (Grw.refl s) (rsf ?_)⟩⟩
    unfold Rp
    exact ⟨a, vs, rfl, f1, r⟩
  · exact g.elim
def gInt : Gcl := fun ds P => match ds with
  | [.int i] => P (.fz (.int i))
  | [.bl k] => P (.fz (.int (if k then 1 else 0)))
  | _ => False
theorem cs_int : ClS X (.type "int") gInt := .mk' call_int1 fun F H xs ds P Q s w g post => by
  unfold gInt at g
  split at g
  · obtain ⟨x, e, w⟩ := w.one
    have e1 := vw_int w
    subst e e1
    exact .inl ⟨_, rfl, post _ _ F H g (Grw.refl s) rsi⟩
  · obtain ⟨x, e, w⟩ := w.one
    have e1 := vw_bl w
    subst e e1
    exact .inr ⟨_, rfl, post _ _ F H g (Grw.refl s) rsi⟩
  · exact g.elim
def gBool : Gcl := fun ds P => match ds with
  | [.int i] => P (.fz (.bl (i != 0)))
  | [.bl k] => P (.fz (.bl k))
  | _ => False
theorem cs_bool : ClS X (.type "bool") gBool := .mk' call_bool1 fun F H xs ds P Q s w g post => by
  unfold gBool at g
  split at g
  · obtain ⟨x, e, w⟩ := w.one
    have e1 := vw_int w
    subst e e1
    exact .inl ⟨_, rfl, post _ _ F H g (Grw.refl s) rsb⟩
  · obtain ⟨x, e, w⟩ := w.one
    have e1 := vw_bl w
    subst e e1
    exact .inr ⟨_, rfl, post _ _ F H g (Grw.refl s) rsb⟩
  · exact g.elim
def gAbs : Gcl := fun ds P => match ds with
  | [.int i] => P (.fz (.int (if i < 0 then -i else i)))
  | _ => False
theorem cs_abs : ClS X (.builtin "abs") gAbs := .mk' call_abs fun F H xs ds P Q s w g post => by
  unfold gAbs at g
  split at g
  · obtain ⟨x, e, w⟩ := w.one
    have e1 := vw_int w
    subst e e1
    exact ⟨_, rfl, post _ _ F H g (Grw.refl s) rsi⟩
  · exact g.elim
def gStrI : Gcl := fun ds P => match ds with
  | [.int i] => i.natAbs.log2 < 1920 ∧ P (.fz (.str (toString i)))
  | _ => False
theorem cs_strI : ClS X (.type "str") gStrI := .mk' call_str_int fun F H xs ds P Q s w g post => by
  unfold gStrI at g
  split at g
  · obtain ⟨x, e, w⟩ := w.one
    have e1 := vw_int w
    subst e e1
    exact ⟨_, rfl, g.1, post _ _ F H g.2 (Grw.refl s) rss⟩
  · exact g.elim
/-! ### slices -/
def cutD (xs : List D) (lo hi : Option Int) : List D := (xs.drop (HT.sIx xs.length 0 lo)).take (HT.sIx xs.length xs.length hi - HT.sIx xs.length 0 lo)
theorem cut_rp {F : Hp} {l : List D} {vs : List V} (r : RpL F l vs) (lo hi : Option Int) : RpL F (cutD l lo hi) (cutV vs lo hi) := by
  unfold cutD cutV
  rw [r.len]
  exact RpL.take _ (RpL.drop _ r)
def gSl (d : D) (lo hi : Option Int) (P : Tv → Prop) : Prop := match d with
  | .lst l => P (.ow (.lst (cutD l lo hi)))
  | .tup l => P (.fz (.tup (cutD l lo hi)))
  | .str z => z.length ≤ 16000000 ∧ P (.fz (.str (cutS z lo hi)))
  | _ => False
variable {α : Type} {E : En α}
/-- a slice's part -/
abbrev WO (α : Type) := PSt α → (Option Int → PSt α → Prop) → Prop
def lO (E : En α) (w : WO α) : TO := fun σ H Q => ∃ hk ρ F oa Qp, Ok E hk ρ F H oa σ ∧ w ρ Qp ∧ ∀ o ρ' F' H' oa', Qp o ρ' → Same F F' → Ok E hk ρ' F' H' oa' σ → Q o H'
abbrev QO (X : Cx) (E : En α) (e : Option Expr) (w : WO α) : Prop := PO X e (lO E w)
def woN : WO α := fun ρ Q => Q none ρ
def woS (we : WE α) : WO α := fun ρ Q => we ρ fun t ρ1 => rdT t ρ1 fun d => intK d fun i => Q (some i) ρ1
theorem _root_.L2.PO.im {e : Option Expr} {t t' : TO} (h : PO X e t) (f : ∀ σ H Q, t' σ H Q → t σ H Q) : PO X e t' := ⟨fun pins s σ H Q I q => h.run pins s σ H Q I (f σ H Q q)⟩
theorem qo_none : QO X E none woN := po_none.im fun σ H Q h => by
  obtain ⟨hk, ρ, F, oa, Qp, o, hw, post⟩ := h
  exact post none ρ F H oa hw (Same.refl _) o
theorem qo_some {e : Expr} {we : WE α} (h : QE X E e we) : QO X E (some e) (woS we) := (po_some h).im fun σ H Q h => by
  obtain ⟨hk, ρ, F, oa, Qp, o, hw, post⟩ := h
  refine ⟨hk, ρ, F, oa, _, o, hw, fun t ρ1 v F1 H1 oa1 q1 s1 o1 tv => ?_⟩
  obtain ⟨d, w, q⟩ := rd_ok o1 tv q1
  unfold intK at q
  split at q
  · rename_i i
    exact ⟨i, vw_int w, post _ ρ1 F1 H1 oa1 q s1 o1⟩
  · exact q.elim
def wSl (we : WE α) (wl wh : WO α) : WE α := fun ρ Q => we ρ fun t ρ1 => wl ρ1 fun lo ρ2 => wh ρ2 fun hi ρ3 => rdT t.st ρ3 fun d => gSl d lo hi fun r => Q r ρ3
theorem q_slice {e : Expr} {lo hi : Option Expr} {we : WE α} {wl wh : WO α} {pos p2 : Pos} (he : QE X E e we) (hl : QO X E lo wl) (hh : QO X E hi wh) : QE X E (.Subscript e (.Slice lo hi none p2) pos) (wSl we wl wh) :=
  (pe_slice ((sl_list.or sl_tupA).or sl_str) he hl hh).im fun σ H Q h => by
    obtain ⟨hk, ρ, F, oa, Qp, o, hw, post⟩ := h
    refine ⟨hk, ρ, F, oa, _, o, hw, fun t ρ1 v F0 H1 oa1 q1 s0 o0 tv0 => ?_⟩
    obtain ⟨F1, s01, o1, tv⟩ := st_ok o0 tv0
    have s1 := s0.trans s01
    refine ⟨hk, ρ1, F1, oa1, _, o1, q1, fun lo ρ2 F2 H2 oa2 q2 s2 o2 => ?_⟩
    refine ⟨hk, ρ2, F2, oa2, _, o2, q2, fun hi ρ3 F3 H3 oa3 q3 s3 o3 => ?_⟩
    obtain ⟨d, w, q⟩ := rd_ok o3 (st_keep tv (s2.trans s3)) q3
    have S := s1.trans (s2.trans s3)
    have fin : ∀ {t v F' H'}, Qp t ρ3 → Grw F3 H3 F' H' → RsOk F3 H3 F' H' t v → Q v H' := fun {t v F' H'} p gr rs => post t ρ3 v F' H' oa3 p (S.trans gr.f) (o3.grw gr) (o3.rs gr rs)
    unfold gSl at q
    split at q
    · obtain ⟨a, vs, e1, h1, r⟩ := w
      subst e1
      refine .inl (.inl ⟨a, vs, rfl, SqL.of h1, fun p np => ?_⟩)
      obtain ⟨g1, g2⟩ := rs_lst o3.sub np (cut_rp r lo hi)
      exact fin q g1 g2
    · rename_i l
      obtain ⟨a, vs, e1, f1, h1, r⟩ := vw_tup w o3.sub
      subst e1
      refine .inl (.inr ⟨a, vs, rfl, SqT.of h1, fun c => ?_, fun _ p np => ?_⟩)
      · refine fin q (Grw.refl o3.sub) (rsf ?_)
        have : cutD l lo hi = l := by
          unfold cutD
          rw [← r.len, c.1, c.2, List.drop_zero, Nat.sub_zero, List.take_of_length_le (by rw [r.len]; exact Nat.le_refl _)]
        rw [this]
        unfold Rp
        exact ⟨a, vs, rfl, f1, r⟩
      · obtain ⟨g1, g2⟩ := rs_tup o3.sub np (cut_rp r lo hi)
        exact fin q g1 g2
    · have e1 := vw_str w
      subst e1
      exact .inr ⟨_, rfl, sizeLine16 q.1, fin q.2 (Grw.refl o3.sub) rss⟩
    · exact q.elim
def tupK (d : D) (k : List D → Prop) : Prop := match d with
  | .tup l => k l
  | _ => False
theorem tupK_t {l : List D} {k : List D → Prop} : tupK (.tup l) k = k l := rfl
def lstK (d : D) (k : List D → Prop) : Prop := match d with
  | .lst l => k l
  | _ => False
theorem lstK_l {l : List D} {k : List D → Prop} : lstK (.lst l) k = k l := rfl
def wRevT (we : WE α) : WE α := fun ρ Q => we ρ fun t ρ1 => rdT t ρ1 fun d => tupK d fun l => Q (.fz (.tup l.reverse)) ρ1
def wRevL (we : WE α) : WE α := fun ρ Q => we ρ fun t ρ1 => rdT t ρ1 fun d => lstK d fun l => Q (.ow (.lst l.reverse)) ρ1
theorem q_revT {e : Expr} {we : WE α} {k : Nat} {p1 p2 p3 pos : Pos} (he : QE X E e we) : QE X E (.Subscript e (.Slice none none (some (.UnaryOp .USub (.Constant (.int 1) k p1) p2)) p3) pos) (wRevT we) :=
  (pe_revT he).im fun σ H Q h => by
    obtain ⟨hk, ρ, F, oa, Qp, o, hw, post⟩ := h
    refine ⟨hk, ρ, F, oa, _, o, hw, fun t ρ1 v F1 H1 oa1 q1 s1 o1 tv => ?_⟩
    obtain ⟨d, w, q⟩ := rd_ok o1 tv q1
    unfold tupK at q
    split at q
    · obtain ⟨a, vs, e1, f1, h1, r⟩ := vw_tup w o1.sub
      subst e1
      refine ⟨a, vs, rfl, SqT.of h1, fun p np => ?_⟩
      obtain ⟨g1, g2⟩ := rs_tup o1.sub np r.rev
      exact post _ ρ1 _ _ _ oa1 q (s1.trans g1.f) (o1.grw g1) (o1.rs g1 g2)
    · exact q.elim
theorem q_revL {e : Expr} {we : WE α} {k : Nat} {p1 p2 p3 pos : Pos} (he : QE X E e we) : QE X E (.Subscript e (.Slice none none (some (.UnaryOp .USub (.Constant (.int 1) k p1) p2)) p3) pos) (wRevL we) :=
  (pe_revL he).im fun σ H Q h => by
    obtain ⟨hk, ρ, F, oa, Qp, o, hw, post⟩ := h
    refine ⟨hk, ρ, F, oa, _, o, hw, fun t ρ1 v F1 H1 oa1 q1 s1 o1 tv => ?_⟩
    obtain ⟨d, w, q⟩ := rd_ok o1 tv q1
    unfold lstK at q
    split at q
    · obtain ⟨a, vs, e1, h1, r⟩ := w
      subst e1
      refine ⟨a, vs, rfl, SqL.of h1, fun p np => ?_⟩
      obtain ⟨g1, g2⟩ := rs_lst o1.sub np r.rev
      exact post _ ρ1 _ _ _ oa1 q (s1.trans g1.f) (o1.grw g1) (o1.rs g1 g2)
    · exact q.elim
/-! ### promises of another kind -/
section
variable {P : Program} {w : World} {K : PySem.W.Frag} {mg : Str → Option Value} {base : Heap} {CX : CXT} {k : Nat} {f : Addr} {fd : FuncData} {ps : List Str} {sp sp' : Sp}
theorem _root_.Ow.FnOkG.imp (F : FnOkG P w K mg base CX k f fd ps sp) (h : ∀ vs H Q E, sp' vs H Q E → sp vs H Q E) : FnOkG P w K mg base CX k f fd ps sp' :=
  ⟨fun us H Q E q => F.len us H Q E (h _ _ _ _ q), fun A out s H ar us vs Q E hg hr e0 hb r q => F.go A out s H ar us vs Q E hg hr e0 hb r (h _ _ _ _ q)⟩
/-- what never raises may be called anywhere -/
theorem _root_.Ow.FnOkG.up (F : FnOkG P w K mg base L2.CX0 k f fd ps sp) : FnOkG P w K mg base CX k f fd ps sp :=
  ⟨F.len, fun A out s H ar us vs Q E hg hr e0 hb r q => codeAny_mono (F.go A out s H ar us vs Q E hg hr e0 hb r q) fun res s' h => by
    cases res with
    | error er => exact (show False from h).elim
    | ok fl => cases fl <;> exact h⟩
theorem CalP.of {α : Type} {R : Reg α} {x : Str} {sp : PSp α} (h : ∃ f fd, FnOkG P w K mg base (L2.CX P w) k f fd ps sp' ∧ mg x = some (.ref f) ∧ PySem.W.keepIn K (.ref f) = true ∧ Binds K fd ps []) (i : ∀ vs H Q E, lsp R sp vs H Q E → sp' vs H Q E) : CalP P w K mg base R k x ps sp := by
  obtain ⟨f, fd, F, hm, hk, hb⟩ := h
  exact ⟨f, fd, F.imp i, hm, hk, hb⟩
/-- a def that never raises, over nothing but frozen data: as an older promise -/
theorem pfn0 {α : Type} {R : Reg α} {x qual : Str} {st : Stmt} {N : List Str} {sp : PSp α} (F : Fun K x qual st f fd) (S : FnScope N ps (defScope st)) (len : ∀ ds m Q E, sp ds m Q E → ds.length = ps.length)
    (hbody : ∀ (X : Cx) (E : En α) (ds : List D) (m : α) (Q : SV → α → Prop) (Ep : Exc → α → Prop), E.R = R → E.nl = true → (∃ cdv A outer s H W, X = (cxOf L2.CX0 P w K mg base N qual (defScope st) f cdv A outer s H W).nox) → Room k X.A →
      sp ds m Q Ep → ∃ wb, QSs X E (defBody st) wb ∧ wb { nx := fun ρ => Q (.fz .non) ρ.g, rt := Q } (startP N.length ds m)) :
    FnOk P w K mg base L2.CX0 (k + 1) f fd ps (lsp R sp) := by
  have arity : ∀ vs H Q E, lsp R sp vs H Q E → vs.length = ps.length := fun vs H Q E h => by
    obtain ⟨F0, m, ds, Qp, Ep, a, hs, _, _⟩ := h
    rw [a.rp.len, len _ _ _ _ hs]
  refine F.ok S arity (fun cdv A outer s H vs Q E hr hsp => ?_)
  obtain ⟨F0, m, ds, Qp, Ep, a, hs, hQ, hE⟩ := hsp
  obtain ⟨wb, ht, hq⟩ := hbody (cxOf L2.CX0 P w K mg base N qual (defScope st) f cdv A outer s H E).nox ⟨R, R.S m, F0, H, true⟩ ds m Qp Ep rfl rfl ⟨cdv, A, outer, s, H, E, rfl⟩ hr hs
  exact ⟨_, ht, ⟨[], _, F0, _, _, start_ok a, hq, ⟨fun ρ' F' H' oa' σ' q s o => hQ _ _ _ F' H' q (ends_xt o.o) (by show Rp F' .non .non; unfold Rp; rfl), fun r m' v F' H' q s o rv => hQ _ _ _ F' H' q (ends_xt o) (rv_x rv), fun _ _ _ _ _ q => q.elim, fun _ _ _ _ _ q => q.elim⟩⟩⟩
end
end Pu

/-! promises without a region, names of types, *, targets, stores, methods of own containers -/
namespace Pu
open PySem L2 Ow
theorem u65 {k : Nat} {A : Around} (r : Room k A) : A.units + 65 < cLine := by have := r.un; omega
theorem u64 {k : Nat} {A : Around} (r : Room k A) : A.units + 64 < cLine := by have := r.un; omega
theorem u1 {k : Nat} {A : Around} (r : Room k A) : A.units + 1 < cLine := by have := r.un; omega
/-! ### steps -/
/-- one statement, and what follows as N -/
theorem seq_k {α : Type} {t u : WS α} {D : PEnds α} {ρ : PSt α} (h : ∀ N : PSt α → Prop, (∀ ρ' ρ'', Frz ρ' ρ'' → u D ρ'' → N ρ') → t { D with nx := N } ρ) : wSeq t u D ρ := h _ fun _ ρ'' f q => ⟨ρ'', f, q⟩
theorem iteTP {p q : Prop} : (if true = true then p else q) = p := rfl
theorem iteNT {p q : Prop} : (if (!true) = true then p else q) = q := rfl
theorem iteNF {p q : Prop} : (if (!false) = true then p else q) = p := rfl
theorem iteFP {p q : Prop} : (if false = true then p else q) = q := rfl
/-- a comprehension: its items one by one, for a given answer -/
theorem lc_ix {α : Type} {ds : List D} {ρ1 : PSt α} {vs : List Nat} {wg : WG α} {wt : WT α} {we : WE α} {Q : Tv → PSt α → Prop} (f : Nat → Option D) (hl : ds.length ≤ 100000)
    (h : ∀ i d (yes : D → α → Prop) (no : α → Prop), ds[i]? = some d → (∀ y, f i = some y → yes y ρ1.g) → (f i = none → no ρ1.g) → lcC ρ1 vs wg wt we d ρ1.g yes no) (q : Q (.ow (.lst ((List.range ds.length).filterMap f))) (wipeP ρ1 vs)) :
    lcB ds ρ1 wg wt we vs Q := by
  refine ⟨hl, fun i acc m => acc = (List.range i).filterMap f ∧ m = ρ1.g, ⟨rfl, rfl⟩, ?_, ?_⟩
  · rintro i d acc m hd ⟨rfl, rfl⟩
    refine h i d _ _ hd (fun y e => ⟨?_, rfl⟩) (fun e => ⟨?_, rfl⟩)
    · rw [List.range_succ, List.filterMap_append]
      simp [e]
    · rw [List.range_succ, List.filterMap_append]
      simp [e]
  · rintro acc m ⟨rfl, rfl⟩
    have : (wipeP ρ1 vs).sg ρ1.g = wipeP ρ1 vs := pst_ext rfl (wipeP_g ρ1 vs).symm
    rw [this]
    exact q
theorem fm_range {α β : Type} (f : α → Option β) : ∀ (l : List α), (List.range l.length).filterMap (fun i => l[i]?.bind f) = l.filterMap f
  | [] => rfl
  | a :: l => by
    have ih := fm_range f l
    rw [List.length_cons, List.range_succ_eq_map, List.filterMap_cons, List.filterMap_map, List.filterMap_cons]
    have e : ((fun i => (a :: l)[i]?.bind f) ∘ Nat.succ) = fun i => l[i]?.bind f := by
      funext i
      simp
    have e0 : (a :: l)[0]?.bind f = f a := rfl
    rw [e, ih, e0]
/-- .. where an item's answer hangs on the item alone -/
theorem lc_in {α : Type} {ds : List D} {ρ1 : PSt α} {vs : List Nat} {wg : WG α} {wt : WT α} {we : WE α} {Q : Tv → PSt α → Prop} (f : D → Option D) (hl : ds.length ≤ 100000)
    (h : ∀ d ∈ ds, ∀ (yes : D → α → Prop) (no : α → Prop), (∀ y, f d = some y → yes y ρ1.g) → (f d = none → no ρ1.g) → lcC ρ1 vs wg wt we d ρ1.g yes no) (q : Q (.ow (.lst (ds.filterMap f))) (wipeP ρ1 vs)) :
    lcB ds ρ1 wg wt we vs Q := by
  refine lc_ix (fun i => ds[i]?.bind f) hl (fun i d yes no e hy hn => ?_) (by rw [fm_range]; exact q)
  refine h d (List.mem_of_getElem? e) yes no (fun y ey => hy y ?_) (fun en => hn ?_)
  · show ds[i]?.bind f = _
    rw [e]; exact ey
  · show ds[i]?.bind f = _
    rw [e]; exact en
/-- .. where each item gives one -/
theorem lc_map {α : Type} {ds : List D} {ρ1 : PSt α} {vs : List Nat} {wg : WG α} {wt : WT α} {we : WE α} {Q : Tv → PSt α → Prop} (f : D → D) (hl : ds.length ≤ 100000)
    (h : ∀ d ∈ ds, ∀ (yes : D → α → Prop) (no : α → Prop), yes (f d) ρ1.g → lcC ρ1 vs wg wt we d ρ1.g yes no) (q : Q (.ow (.lst (ds.map f))) (wipeP ρ1 vs)) :
    lcB ds ρ1 wg wt we vs Q := by
  refine lc_in (fun d => some (f d)) hl (fun d hd yes no hy _ => h d hd yes no (hy _ rfl)) ?_
  have : ds.filterMap (fun d => some (f d)) = ds.map f := by rw [← List.filterMap_eq_map] <;> rfl
  rw [this]
  exact q
/-- .. where items are left out -/
theorem lc_filter {α : Type} {ds : List D} {ρ1 : PSt α} {vs : List Nat} {wg : WG α} {wt : WT α} {we : WE α} {Q : Tv → PSt α → Prop} (p : D → Bool) (hl : ds.length ≤ 100000)
    (h : ∀ d ∈ ds, ∀ (yes : D → α → Prop) (no : α → Prop), (p d = true → yes d ρ1.g) → (p d = false → no ρ1.g) → lcC ρ1 vs wg wt we d ρ1.g yes no) (q : Q (.ow (.lst (ds.filter p))) (wipeP ρ1 vs)) :
    lcB ds ρ1 wg wt we vs Q := by
  refine lc_in (fun d => if p d then some d else none) hl (fun d hd yes no hy hn => h d hd yes no (fun e => hy d (by simp [e])) (fun e => hn (by simp [e]))) ?_
  have : ds.filterMap (fun d => if p d then some d else none) = ds.filter p := by
    have := congrFun (List.filterMap_eq_filter (p := p)) ds
    rw [← this]
    congr 1
  rw [this]
  exact q
/-! ### .. over a list of known things -/
section
variable {α β : Type} {ρ1 : PSt α} {vs : List Nat} {wg : WG α} {wt : WT α} {we : WE α} {Q : Tv → PSt α → Prop}
theorem lm_fm (c : β → D) {l : List β} (f : β → Option D) (hl : l.length ≤ 100000)
    (h : ∀ b ∈ l, ∀ (yes : D → α → Prop) (no : α → Prop), (∀ y, f b = some y → yes y ρ1.g) → (f b = none → no ρ1.g) → lcC ρ1 vs wg wt we (c b) ρ1.g yes no) (q : Q (.ow (.lst (l.filterMap f))) (wipeP ρ1 vs)) : lcB (l.map c) ρ1 wg wt we vs Q := by
  refine lc_ix (fun i => l[i]?.bind f) (by rw [List.length_map]; exact hl) (fun i d yes no e hy hn => ?_) (by rw [List.length_map, fm_range]; exact q)
  rw [List.getElem?_map] at e
  obtain ⟨b, eb, rfl⟩ := Option.map_eq_some_iff.mp e
  refine h b (List.mem_of_getElem? eb) yes no (fun y ey => hy y ?_) (fun en => hn ?_)
  · show l[i]?.bind f = _
    rw [eb]; exact ey
  · show l[i]?.bind f = _
    rw [eb]; exact en
theorem lm_map (c : β → D) {l : List β} (f : β → D) (hl : l.length ≤ 100000)
    (h : ∀ b ∈ l, ∀ (yes : D → α → Prop) (no : α → Prop), yes (f b) ρ1.g → lcC ρ1 vs wg wt we (c b) ρ1.g yes no) (q : Q (.ow (.lst (l.map f))) (wipeP ρ1 vs)) : lcB (l.map c) ρ1 wg wt we vs Q := by
  refine lm_fm c (fun b => some (f b)) hl (fun d hd yes no hy _ => h d hd yes no (hy _ rfl)) ?_
  have : l.filterMap (fun d => some (f d)) = l.map f := by rw [← List.filterMap_eq_map] <;> rfl
  rw [this]
  exact q
theorem lm_filter (c : β → D) {l : List β} (p : β → Bool) (hl : l.length ≤ 100000)
    (h : ∀ b ∈ l, ∀ (yes : D → α → Prop) (no : α → Prop), (p b = true → yes (c b) ρ1.g) → (p b = false → no ρ1.g) → lcC ρ1 vs wg wt we (c b) ρ1.g yes no) (q : Q (.ow (.lst ((l.filter p).map c))) (wipeP ρ1 vs)) : lcB (l.map c) ρ1 wg wt we vs Q := by
  refine lm_fm c (fun b => if p b then some (c b) else none) hl (fun d hd yes no hy hn => h d hd yes no (fun e => hy _ (by simp [e])) (fun e => hn (by simp [e]))) ?_
  have : l.filterMap (fun b => if p b then some (c b) else none) = (l.filter p).map c := by
    clear q h hl
    induction l with
    | nil => rfl
    | cons a l ih =>
      rw [List.filterMap_cons, List.filter_cons]
      cases p a <;> simp [ih]
  rw [this]
  exact q
/-- .. with numbers -/
theorem en_map (c : β → D) (l : List β) : enD (l.map c) = (List.range l.length).map fun i => .tup [.int (i : Nat), (l.map c).getD i .non] := by
  unfold enD
  rw [List.length_map]
theorem le_fm (c : β → D) {l : List β} (f : Nat → β → Option D) (hl : l.length ≤ 100000)
    (h : ∀ i b, l[i]? = some b → ∀ (yes : D → α → Prop) (no : α → Prop), (∀ y, f i b = some y → yes y ρ1.g) → (f i b = none → no ρ1.g) → lcC ρ1 vs wg wt we (.tup [.int (i : Nat), c b]) ρ1.g yes no)
    (q : Q (.ow (.lst ((List.range l.length).filterMap fun i => l[i]?.bind (f i)))) (wipeP ρ1 vs)) : lcB (enD (l.map c)) ρ1 wg wt we vs Q := by
  refine lc_ix (fun i => l[i]?.bind (f i)) (by rw [enD_len, List.length_map]; exact hl) (fun i d yes no e hy hn => ?_) (by rw [enD_len, List.length_map]; exact q)
  obtain ⟨x, ex, rfl⟩ := enD_get e
  rw [List.getElem?_map] at ex
  obtain ⟨b, eb, rfl⟩ := Option.map_eq_some_iff.mp ex
  refine h i b eb yes no (fun y ey => hy y ?_) (fun en => hn ?_)
  · show l[i]?.bind (f i) = _
    rw [eb]; exact ey
  · show l[i]?.bind (f i) = _
    rw [eb]; exact en
variable {w : WS α} {D0 : PEnds α}
/-- a loop over a list of known things -/
theorem lm_for (c : β → D) {l : List β} (I : Nat → PSt α → Prop) (h0 : ∃ ρ0, Frz ρ1 ρ0 ∧ I 0 ρ0)
    (turn : ∀ i b ρ (N : PSt α → Prop), l[i]? = some b → I i ρ → (∀ ρ' ρ'', Frz ρ' ρ'' → I (i + 1) ρ'' → N ρ') → wg (c b) ρ fun ρ' => w { D0 with nx := N, ct := N, bk := D0.nx } ρ') (fin : ∀ ρ, I l.length ρ → D0.nx ρ) : forB (l.map c) ρ1 wg w D0 := by
  refine ⟨I, h0, fun i d ρ e hI => ?_, by rw [List.length_map]; exact fin⟩
  rw [List.getElem?_map] at e
  obtain ⟨b, eb, rfl⟩ := Option.map_eq_some_iff.mp e
  exact turn i b ρ _ eb hI fun ρ' ρ'' f q => ⟨ρ'', f, q⟩
theorem le_for (c : β → D) {l : List β} (I : Nat → PSt α → Prop) (h0 : ∃ ρ0, Frz ρ1 ρ0 ∧ I 0 ρ0)
    (turn : ∀ i b ρ (N : PSt α → Prop), l[i]? = some b → I i ρ → (∀ ρ' ρ'', Frz ρ' ρ'' → I (i + 1) ρ'' → N ρ') → wg (.tup [.int (i : Nat), c b]) ρ fun ρ' => w { D0 with nx := N, ct := N, bk := D0.nx } ρ') (fin : ∀ ρ, I l.length ρ → D0.nx ρ) : forB (enD (l.map c)) ρ1 wg w D0 := by
  refine ⟨I, h0, fun i d ρ e hI => ?_, by rw [enD_len, List.length_map]; exact fin⟩
  obtain ⟨x, ex, rfl⟩ := enD_get e
  rw [List.getElem?_map] at ex
  obtain ⟨b, eb, rfl⟩ := Option.map_eq_some_iff.mp ex
  exact turn i b ρ _ eb hI fun ρ' ρ'' f q => ⟨ρ'', f, q⟩
/-- a loop over range(n), range(a, b) -/
theorem lr_for {lo : Int} {n : Nat} (I : Nat → PSt α → Prop) (h0 : ∃ ρ0, Frz ρ1 ρ0 ∧ I 0 ρ0)
    (turn : ∀ (i : Nat) ρ (N : PSt α → Prop), i < n → I i ρ → (∀ ρ' ρ'', Frz ρ' ρ'' → I (i + 1) ρ'' → N ρ') → wg (.int (lo + (i : Nat))) ρ fun ρ' => w { D0 with nx := N, ct := N, bk := D0.nx } ρ') (fin : ∀ ρ, I n ρ → D0.nx ρ) : forB (rgD lo n) ρ1 wg w D0 := by
  refine ⟨I, h0, fun i d ρ e hI => ?_, by rw [rgD_len]; exact fin⟩
  obtain ⟨hi, rfl⟩ := rgD_get e
  exact turn i ρ _ hi hI fun ρ' ρ'' f q => ⟨ρ'', f, q⟩
theorem lr_map {lo : Int} {n : Nat} (f : Nat → D) (hl : n ≤ 100000) (h : ∀ i, i < n → ∀ (yes : D → α → Prop) (no : α → Prop), yes (f i) ρ1.g → lcC ρ1 vs wg wt we (.int (lo + (i : Nat))) ρ1.g yes no) (q : Q (.ow (.lst ((List.range n).map f))) (wipeP ρ1 vs)) : lcB (rgD lo n) ρ1 wg wt we vs Q := by
  have : rgD lo n = (List.range n).map fun i => .int (lo + (i : Nat)) := rfl
  rw [this]
  exact lm_map _ f (by rw [List.length_range]; exact hl) (fun i hi => h i (List.mem_range.mp hi)) q
theorem lr_fm {lo : Int} {n : Nat} (f : Nat → Option D) (hl : n ≤ 100000) (h : ∀ i, i < n → ∀ (yes : D → α → Prop) (no : α → Prop), (∀ y, f i = some y → yes y ρ1.g) → (f i = none → no ρ1.g) → lcC ρ1 vs wg wt we (.int (lo + (i : Nat))) ρ1.g yes no) (q : Q (.ow (.lst ((List.range n).filterMap f))) (wipeP ρ1 vs)) : lcB (rgD lo n) ρ1 wg wt we vs Q := by
  have : rgD lo n = (List.range n).map fun i => .int (lo + (i : Nat)) := rfl
  rw [this]
  exact lm_fm _ f (by rw [List.length_range]; exact hl) (fun i hi => h i (List.mem_range.mp hi)) q
end
/-! ### promises of what changes nothing -/
abbrev QSp := List D → (SV → Prop) → (Exc → Prop) → Prop
def up (α : Type) (sp : QSp) : PSp α := fun ds m Q Ep => sp ds (fun r => Q r m) (fun e => Ep e m)
/-- no region -/
def R0 : Reg Unit := ⟨fun _ _ => False, fun _ _ _ => True, fun _ _ _ => trivial, fun _ _ h => h.elim⟩
section
variable {α : Type} {P : Program} {w : World} {K : PySem.W.Frag} {mg : Str → Option Value} {base : Heap} {R : Reg α} {k : Nat} {x : Str} {ps : List Str} {sp : QSp} {f : Addr} {fd : FuncData}
theorem args0 {F H : Hp} {m : α} {ds : List D} {vs : List V} (a : ArgsOk R F H m ds vs) : ArgsOk R0 F H () ds vs := ⟨a.sub, trivial, fun _ h => h.elim, a.rp⟩
theorem xt0 {F H F' H' : Hp} {m : α} {ds : List D} {vs : List V} (a : ArgsOk R F H m ds vs) (x : Xt R0 F H () F' H' ()) : Xt R F H m F' H' m :=
  ⟨x.sub, R.keep a.reg x.f fun b o _ e => x.kp b o (fun z => z) e, fun b s => by
    cases q : F' b with
    | none => rfl
    | some o =>
      rcases x.n b o q with z | z | z
      · rw [a.rF b s] at z; cases z
      · exact absurd z (R.there a.reg b s)
      · exact z.elim, x.f, fun b o e => (x.n b o e).imp id fun z => z.imp id fun z => z.elim, fun b o _ e => x.kp b o (fun z => z) e, fun b s => .inl s⟩
theorem rv0 {F H F' H' : Hp} {m : α} {ds : List D} {vs : List V} {r : SV} {v : V} (a : ArgsOk R F H m ds vs) (h : RvX R0 H () () r v F' H') : RvX R H m m r v F' H' := by
  cases r with
  | fz d => exact h
  | ow d =>
    obtain ⟨b, e, o, f, _, n⟩ := h
    have n : H b = none := n.elim id fun z => z.elim
    exact ⟨b, e, o, f, fun s => R.there a.reg b s n, .inl n⟩
theorem lsp_any {vs : List V} {H : Hp} {Q : VK} {E : XK} (h : lsp R (up α sp) vs H Q E) : lsp R0 (up Unit sp) vs H Q E := by
  obtain ⟨F, m, ds, Qp, Ep, a, hs, hQ, hE⟩ := h
  exact ⟨F, (), ds, fun r _ => Qp r m, fun e _ => Ep e m, args0 a, hs, fun r m' v F' H' q x rv => hQ r m v F' H' q (xt0 a x) (rv0 a rv), fun e m' c d F' H' q x ex => hE e m c d F' H' q (xt0 a x) ex⟩
/-- what changes nothing may be called wherever something is changed -/
theorem CalP.any (c : CalP P w K mg base R0 k x ps (up Unit sp)) : CalP P w K mg base R k x ps (up α sp) := by
  obtain ⟨f, fd, F, h⟩ := c.ex
  exact ⟨f, fd, F.imp fun _ _ _ _ q => lsp_any q, h⟩
theorem CalP.mk' (F : FnOkG P w K mg base (L2.CX P w) k f fd ps (lsp R0 (up Unit sp))) (hm : mg x = some (.ref f)) (hk : PySem.W.keepIn K (.ref f) = true) (hb : Binds K fd ps []) : CalP P w K mg base R0 k x ps (up Unit sp) := ⟨f, fd, F, hm, hk, hb⟩
end
variable {α : Type} {X : Cx} {E : En α} {a b e : Expr} {es : List Expr} {wa wb we : WE α} {ws : WA α} {pos p : Pos} {n : Nat}
/-! ### a def over plain data, called by the older rules -/
structure CalGx (P : Program) (w : World) (K : PySem.W.Frag) (mg : Str → Option Value) (base : Heap) (k : Nat) (x : Str) (ps : List Str) (sp : Sp) : Prop where
  ex : ∃ f fd, FnOkG P w K mg base (L2.CX P w) k f fd ps sp ∧ mg x = some (.ref f) ∧ PySem.W.keepIn K (.ref f) = true ∧ Binds K fd ps []
theorem pe_calGx {X : Cx} {x : Str} {k : Nat} {ps : List Str} {sp : Sp} {p pos : Pos} {e : Expr} {es : List Expr} {t : TA} (c : CalGx X.prog X.w X.K X.mg X.base k x ps sp) (hg : X.A.guards = some []) (hr : Room k X.A) (gl : Gl X x) (ha : PA X (e :: es) t) (hdb : (x == ("__debug__" : Str)) = false := by decide)
    (he : starEach (e :: es) X.env = (false, eval e X.env) :: starEach es X.env := by rfl) (hpl : (backTo pos (starEach es X.env)).any (·.1) = false := by rfl) : PE X (.Call (.Name x p) (e :: es) [] pos) (tCallG sp (fun _ => E0) t) := by
  obtain ⟨f, fd, F, hm, hk, hb⟩ := c.ex
  exact pe_callGS hg F hr gl hm hk hb (fun σ pins H s e s' I c => by
    obtain ⟨_, _, _, _, _, _, _, _, _, _, _, _, z⟩ := c
    exact z.elim) ha hdb he hpl
/-! ### names of types and of a module's constants -/
theorem q_bty {x : Str} {nm : String} (hg : Gl X x) (hm : X.mg x = none) (hv : bootBuiltins x = some (.type nm)) (hn : x ≠ "__name__" := by decide) (hd : (x == ("__debug__" : Str)) = false := by decide) : QE X E (.Name x pos) (wC (.ty nm)) :=
  q_con (pe_bltn (v := .ty nm) hg hm hv rfl hn hd) fun _ => by unfold Rp; rfl
theorem q_gint {x : Str} {i : Int} {t : Tok} (hg : Gl X x) (hm : X.mg x = some (.int i t)) (hd : (x == ("__debug__" : Str)) = false := by decide) : QE X E (.Name x pos) (wC (.int i)) :=
  q_con (pe_glob (v := .int i) hg hm ⟨_, rfl⟩ hd) fun _ => by unfold Rp; rfl
theorem q_gadr {x : Str} {C : Addr} (hg : Gl X x) (hm : X.mg x = some (.ref C)) (hd : (x == ("__debug__" : Str)) = false := by decide) : QE X E (.Name x pos) (wC (.adr C)) :=
  q_con (pe_glob (v := .ref C) hg hm rfl hd) fun _ => by unfold Rp; rfl
/-! ### * -/
theorem RpL.rep {F : Hp} {l : List D} {vs : List V} (r : RpL F l vs) : ∀ n : Nat, RpL F (List.replicate n l).flatten (List.replicate n vs).flatten
  | 0 => RpL.nil
  | n + 1 => by
    rw [List.replicate_succ, List.replicate_succ, List.flatten_cons, List.flatten_cons]
    exact RpL.app r (r.rep n)
def gMul : Gop := fun a b P => match a, b with
  | .int i, .int j => CMul i j ∧ P (.fz (.int (i * j)))
  | .str z, .int k => MulOk z k ∧ P (.fz (.str (Txt.mul z k)))
  | .lst l, .int k => (-(2 ^ 63) ≤ k ∧ k < 2 ^ 63 ∧ l.length * k.toNat ≤ 16000000) ∧ P (.ow (.lst (List.replicate k.toNat l).flatten))
  | .tup l, .int k => (l ≠ [] ∧ 2 ≤ k ∧ k ≤ 1000 ∧ l.length ≤ 1000) ∧ P (.fz (.tup (List.replicate k.toNat l).flatten))
  | _, _ => False
theorem os_mul : OpS X (binaryOp .Mult) gMul := .mk' (((op_mul.or Tg.op_mulStr).or op_rep).or op_repT) fun F H x y d1 d2 P Q s w1 w2 g post => by
  unfold gMul at g
  split at g
  · exact .inl (.inl (.inl ⟨_, _, vw_int w1, vw_int w2, g.1, post _ _ F H g.2 (Grw.refl s) rsi⟩))
  · exact .inl (.inl (.inr ⟨_, _, vw_str w1, vw_int w2, g.1, post _ _ F H g.2 (Grw.refl s) rss⟩))
  · obtain ⟨p, xs, e1, h1, r1⟩ := w1
    have e2 := vw_int w2
    subst e1 e2
    refine .inl (.inr ⟨p, _, xs, rfl, rfl, h1, g.1.1, g.1.2.1, sizeLine16 (by rw [r1.len]; exact g.1.2.2), fun q nq => ?_⟩)
    obtain ⟨g1, g2⟩ := rs_lst s nq (r1.rep _)
    exact post _ _ _ _ g.2 g1 g2
  · obtain ⟨p, xs, e1, _, h1, r1⟩ := vw_tup w1 s
    have e2 := vw_int w2
    subst e1 e2
    have z := r1.len
    refine .inr ⟨p, _, xs, rfl, rfl, SqT.of h1, fun c => g.1.1 (List.length_eq_zero_iff.mp (by rw [← z, c]; rfl)), g.1.2.1, g.1.2.2.1, by rw [z]; exact g.1.2.2.2, fun q nq => ?_⟩
    obtain ⟨g1, g2⟩ := rs_tup s nq (r1.rep _)
    exact post _ _ _ _ g.2 g1 g2
  · exact g.elim
/-! ### a value into any target -/
def wAsg (we : WE α) (wg : WG α) : WS α := fun D ρ => we ρ fun t ρ1 => fzT t ρ1 fun d ρ2 => wg d ρ2 D.nx
theorem qs_asg {tg : Expr} {g : TG} {wg : WG α} {vs : List Nat} (he : QE X E e we) (hg : PG X tg g) (gs : GS E g wg vs) (hs : swapsWithSole [tg] e pos.line X.env = pure false := by rfl) (hw : swappedStores [tg] e X.env = pure none := by rfl)
    (h1 : (assignEach [tg] X.env).map (·.2) = [assign tg X.env] := by rfl) : QS X E (.Assign [tg] e pos) (wAsg we wg) := (ps_asg he hg hs hw h1).im fun D σ H h => by
  obtain ⟨hk, ρ, F, oa, Dp, o, hw, en⟩ := h
  refine ⟨hk, ρ, F, oa, _, o, hw, fun t ρ1 v F1 H1 oa1 q1 s1 o1 tv => ?_⟩
  obtain ⟨d, ρ2, F2, oa2, s2, o2, r2, q2⟩ := fz_ok o1 tv q1
  obtain ⟨ρ3, oa3, σ3, o3, q3, _, f3⟩ := gs.go o2 r2 q2
  exact f3 _ (en.nx ρ3 F2 H1 oa3 σ3 q3 (s1.trans s2) o3)
/-! ### stores into own containers -/
/-- d[k] = y -/
def dputD : D → D → D → Option D
  | .dct ks l, k, y => (dK? k).map fun x => .dct (dputK ks l x) (dputL ks l x y)
  | .dcT ks l, k, y => (dKs? k).map fun x => .dcT (dputK ks l x) (dputL ks l x y)
  | _, _, _ => none
def okD : D → Prop
  | .dct ks _ => ks.Nodup ∧ ks.length ≤ 100000
  | .dcT ks _ => ks.Nodup ∧ ks.length ≤ 100000
  | _ => False
theorem put_own {F H : Hp} {d d' k y : D} {a : Addr} {kv yv : V} (s : Sub F H) (w : Oc F H d a) (wk : Vw F H k kv) (ry : Rp F y yv) (c : okD d) (e : dputD d k y = some d') : ∃ H', DPut H a kv yv H' ∧ ∃ u, H' = upd H a u ∧ Oc F (upd H a u) d' a := by
  cases d <;> simp only [dputD] at e <;> try cases e
  · rename_i ks l
    obtain ⟨vs, h1, hl, r⟩ := w
    cases q : dK? k with
    | none => rw [q] at e; cases e
    | some kk =>
      rw [q] at e
      cases e
      obtain ⟨vs', e1, e2, e3⟩ := vput (x := kk) ry r hl c.1
      have := dK_v wk q
      subst this
      refine ⟨_, DPut.k h1 ?_, _, rfl, vs', ?_, e2, e3⟩
      · rw [List.length_zip, ← hl, Nat.min_self]
        exact Nat.lt_of_le_of_lt c.2 (by rw [sizeLine_eq]; decide)
      · rw [upd_same, e1]
  · rename_i ks l
    obtain ⟨vs, h1, hl, r⟩ := w
    cases q : dKs? k with
    | none => rw [q] at e; cases e
    | some kk =>
      rw [q] at e
      cases e
      obtain ⟨vs', e1, e2, e3⟩ := vput (x := kk) ry r hl c.1
      cases k <;> simp only [dKs?] at q <;> try cases q
      rename_i tl
      obtain ⟨b, bs, e4, _, hb, rb⟩ := vw_tup wk s
      subst e4
      refine ⟨_, DPut.t (k := kk) h1 (by rw [← mapM_kv q rb]; exact hb) ?_, _, rfl, vs', ?_, e2, e3⟩
      · rw [List.length_zip, ← hl, Nat.min_self]
        exact Nat.lt_of_le_of_lt c.2 (by rw [sizeLine_eq]; decide)
      · rw [upd_same, e1]
def wDput (i : Nat) (wk wv : WE α) : WS α := fun D ρ => wv ρ fun t ρ1 => fzT t ρ1 fun y ρ2 => (∃ d, ρ2.sl[i]? = some (some (.ow d))) ∧ wk ρ2 fun u ρ3 => rdT u ρ3 fun k => match ρ3.sl[i]? with
  | some (some (.ow d)) => okD d ∧ ∃ d', dputD d k y = some d' ∧ D.nx (ρ3.put i (.ow d'))
  | _ => False
theorem qs_dput {i : Nat} {o k : Expr} {wk wv : WE α} {v : Expr} {pos' : Pos} (hu : X.A.units + 1 < cLine) (ho : PE X o (tVar i)) (hk : QE X E k wk) (hv : QE X E v wv) (hs : swapsWith v (some (.Subscript o k pos')) pos.line X.env = pure false := by rfl) :
    QS X E (.Assign [.Subscript o k pos'] v pos) (wDput i wk wv) := (ps_dput hu ho hk hv hs).im fun D σ H h => by
  obtain ⟨hk, ρ, F, oa, Dp, o, hw, en⟩ := h
  refine ⟨hk, ρ, F, oa, _, o, hw, fun t ρ1 yv F1 H1 oa1 q1 s1 o1 tv => ?_⟩
  obtain ⟨y, ρ2, F2, oa2, s2, o2, ry, ⟨⟨d0, e0⟩, q2⟩⟩ := fz_ok o1 tv q1
  obtain ⟨v0, ev0, _⟩ := o2.sl i _ e0
  refine ⟨v0, ev0, hk, ρ2, F2, oa2, _, o2, q2, fun u ρ3 kv F3 H3 oa3 q3 s3 o3 tk => ?_⟩
  obtain ⟨kd, wkd, q4⟩ := rd_ok o3 tk q3
  try dsimp only at q4
  split at q4
  · rename_i d e
    obtain ⟨c, d', ed, q5⟩ := q4
    obtain ⟨a, ea, w, mu⟩ := o3.mut (d' := d') e
    obtain ⟨H4, dp, u4, eH, w4⟩ := put_own o3.sub w wkd (ry.mono s3) c ed
    subst eH
    have : v0 = .ref a := by
      rw [ev0] at ea
      cases ea
      rfl
    subst this
    exact ⟨a, _, rfl, dp, en.nx _ F3 _ oa3 _ q5 ((s1.trans s2).trans s3) (mu u4 w4)⟩
  · exact q4.elim
/-- xs[i] = y of an own list -/
def wLput (i : Nat) (wk wv : WE α) : WS α := fun D ρ => wv ρ fun t ρ1 => fzT t ρ1 fun y ρ2 => (∃ d, ρ2.sl[i]? = some (some (.ow d))) ∧ wk ρ2 fun u ρ3 => rdT u ρ3 fun k => match ρ3.sl[i]?, k with
  | some (some (.ow (.lst l))), .int z => ∃ j, ixN l.length z = some j ∧ j < l.length ∧ D.nx (ρ3.put i (.ow (.lst (l.set j y))))
  | _, _ => False
/-! ### methods of own lists -/
/-- what a method does to the container and hands back -/
abbrev Gmu := List D → List D → (List D → D → Prop) → Prop
structure MuS (X : Cx) (id : String) (g : Gmu) : Prop where
  ex : ∃ r : V → List V → Hp → VK → Prop, MtR X id r ∧ ∀ F H l a vs ds xs P Q, Sub F H → H a = some (.lst vs) → RpL F l vs → RpL F ds xs → g l ds P → (∀ l' rd u v, P l' rd → Oc F (upd H a u) (.lst l') a → Rp F rd v → Q v (upd H a u)) → r (.ref a) xs H Q
def wMu (g : Gmu) (i : Nat) (ws : WA α) : WE α := fun ρ Q => (∃ l, ρ.sl[i]? = some (some (.ow (.lst l)))) ∧ ws ρ fun ts ρ1 => fzA ts ρ1 fun ds ρ2 => match ρ2.sl[i]? with
  | some (some (.ow (.lst l))) => g l ds fun l' rd => Q (.fz rd) (ρ2.put i (.ow (.lst l')))
  | _ => False
variable {name : Str} {apos cpos : Pos} {T id : String} {g : Gmu} {o : Expr} {i : Nat}
theorem tyV_lst {K : PySem.W.Frag} {H : Hp} {a : Addr} {xs : List V} (h : H a = some (.lst xs)) : tyV K "list" (.ref a) H := .inl ⟨rfl, xs, SqL.of h⟩
theorem q_mu0 (slot : Slot "list" name id) (hty : typeOf (.builtin id) = pure (.type "method_descriptor")) (hm : MuS X id g) (ho : PE X o (tVar i))
    (hbase : attributeBase o name X.env (eval o X.env) = eval o X.env := by rfl) (hline : (apos.endLine == cpos.line) = true := by rfl) : QE X E (.Call (.Attribute o name apos) [] [] cpos) (wMu g i wNil) := by
  obtain ⟨r, hr, ok⟩ := hm.ex
  refine (pe_bm0 PySem.F.plainAttrs_list slot hty hr ho hbase hline).im fun σ H Q h => ?_
  obtain ⟨hk, ρ, F, oa, Qp, o, ⟨_, hw⟩, post⟩ := h
  have hw : (match ρ.sl[i]? with
    | some (some (.ow (.lst l))) => g l [] fun d' rd => Qp (.fz rd) (ρ.put i (.ow (.lst d')))
    | _ => False) := hw
  split at hw
  · rename_i l e
    obtain ⟨a, ea, w, _⟩ := o.mut (d' := .lst l) e
    obtain ⟨vs, w, rl⟩ := w
    refine ⟨_, ea, tyV_lst w, ok F H l a vs [] [] _ Q o.sub w rl RpL.nil hw fun l' rd u v p w' rv => ?_⟩
    obtain ⟨a', ea', _, mu⟩ := o.mut (d' := .lst l') e
    rw [ea] at ea'
    cases ea'
    exact post _ _ v F _ oa p (Same.refl _) (mu u w') rv
  · exact hw.elim
theorem q_mu (slot : Slot "list" name id) (hty : typeOf (.builtin id) = pure (.type "method_descriptor")) (hm : MuS X id g) (ho : PE X o (tVar i)) (ha : QA X E (e :: es) n ws)
    (hbase : attributeBase o name X.env (eval o X.env) = eval o X.env := by rfl)
    (hfew : ((backTo cpos (starEach (e :: es) X.env)).all (fun x => !x.1) && (backToKw cpos (keywordEach [] X.env)).all (fun x => x.1.isSome)
      && decide ((e :: es).length + ([] : List Keyword).length + (if ([] : List Keyword).isEmpty then 0 else 1) < 30)) = true := by rfl)
    (hline : (apos.endLine == cpos.line) = true := by rfl) (hs : starEach (e :: es) X.env = (false, eval e X.env) :: starEach es X.env := by rfl) (hplain : (backTo cpos (starEach es X.env)).any (·.1) = false := by rfl) :
    QE X E (.Call (.Attribute o name apos) (e :: es) [] cpos) (wMu g i ws) := by
  obtain ⟨r, hr, ok⟩ := hm.ex
  refine (pe_bm PySem.F.plainAttrs_list slot hty hr ho ha hbase hfew hline hs hplain).im fun σ H Q h => ?_
  obtain ⟨hk, ρ, F, oa, Qp, o, ⟨⟨l0, e0⟩, hw⟩, post⟩ := h
  obtain ⟨a0, ea0, ⟨vs0, w0, _⟩, _⟩ := o.mut (d' := .lst l0) e0
  refine ⟨_, ea0, tyV_lst w0, hk, ρ, F, oa, _, o, hw, fun ts ρ1 vs F1 H1 oa1 q1 l1 s1 o1 tv1 => ?_⟩
  obtain ⟨ds, ρ2, F2, oa2, s2, o2, r2, l2, q2⟩ := fzA_ok o1 tv1 q1
  try dsimp only at q2
  split at q2
  · rename_i l e
    obtain ⟨a, ea, ⟨us, w, rl⟩, _⟩ := o2.mut (d' := .lst l) e
    rw [ea0] at ea
    cases ea
    refine ok F2 H1 l _ us ds vs _ Q o2.sub w rl r2 q2 fun l' rd u v p w' rv => ?_
    obtain ⟨a', ea', _, mu⟩ := o2.mut (d' := .lst l') e
    rw [ea0] at ea'
    cases ea'
    exact post _ _ v F2 _ oa2 p (s1.trans s2) (mu u w') rv
  · exact q2.elim
def gApp : Gmu := fun l ds P => match ds with
  | [y] => l.length ≤ 16000000 ∧ P (l ++ [y]) .non
  | _ => False
theorem lt16 {n : Nat} (h : n ≤ 16000000) : n < sizeLine := by rw [sizeLine_eq]; omega
theorem mu_app : MuS X "list.append" gApp := ⟨_, mt_append, fun F H l a vs ds xs P Q s h r rs g post => by
  unfold gApp at g
  split at g
  · obtain ⟨v, xs, e, rv, rx⟩ := rs.uncons
    have := rx.isNil
    subst this e
    exact ⟨a, vs, v, rfl, rfl, h, lt16 (by rw [r.len]; exact g.1), post _ _ _ _ g.2 ⟨_, upd_same, RpL.app r (RpL.one rv)⟩ rp_non⟩
  · exact g.elim⟩
def gPop : Gmu := fun l ds P => match ds with
  | [] => ∃ y, l[l.length - 1]? = some y ∧ P l.dropLast y
  | _ => False
theorem mu_pop : MuS X "list.pop" gPop := ⟨_, mt_pop, fun F H l a vs ds xs P Q s h r rs g post => by
  unfold gPop at g
  split at g
  · obtain ⟨y, ey, g⟩ := g
    have := rs.isNil
    subst this
    obtain ⟨v, ev, rv⟩ := r.get ey
    exact ⟨a, vs, v, rfl, rfl, h, by rw [r.len]; exact ev, post _ _ _ _ g ⟨_, upd_same, r.dropLast⟩ rv⟩
  · exact g.elim⟩
def gPopAt : Gmu := fun l ds P => match ds with
  | [.int i] => (-(2 ^ 63) ≤ i ∧ i < 2 ^ 63) ∧ ∃ k y, seqIndex? i l.length = some k ∧ l[k]? = some y ∧ P (l.eraseIdx k) y
  | _ => False
theorem mu_popAt : MuS X "list.pop" gPopAt := ⟨_, mt_popAt, fun F H l a vs ds xs P Q s h r rs g post => by
  unfold gPopAt at g
  split at g
  · obtain ⟨⟨h1, h2⟩, k, y, ek, ey, g⟩ := g
    obtain ⟨w, xs, e, rw', rx⟩ := rs.uncons
    have := rx.isNil
    unfold Rp at rw'
    subst this e rw'
    obtain ⟨v, ev, rv⟩ := r.get ey
    exact ⟨a, vs, _, k, v, rfl, rfl, h, h1, h2, by rw [r.len]; exact ek, ev, post _ _ _ _ g ⟨_, upd_same, r.erase k⟩ rv⟩
  · exact g.elim⟩
def gExt : Gmu := fun l ds P => match ds with
  | [.lst m] => l.length + m.length ≤ 16000000 ∧ P (l ++ m) .non
  | _ => False
theorem mu_ext : MuS X "list.extend" gExt := ⟨_, mt_extend, fun F H l a vs ds xs P Q s h r rs g post => by
  unfold gExt at g
  split at g
  · obtain ⟨w, xs, e, rw', rx⟩ := rs.uncons
    have := rx.isNil
    unfold Rp at rw'
    obtain ⟨b, us, e1, e2, r2⟩ := rw'
    subst this e e1
    exact ⟨a, b, vs, us, rfl, rfl, h, s.lst e2, sizeLine16 (by rw [r.len, r2.len]; exact g.1), post _ _ _ _ g.2 ⟨_, upd_same, RpL.app r r2⟩ rp_non⟩
  · exact g.elim⟩
def gIns : Gmu := fun l ds P => match ds with
  | [.int i, y] => (l.length ≤ 16000000 ∧ 0 ≤ i ∧ i < 2 ^ 63) ∧ P (l.take i.toNat ++ [y] ++ l.drop i.toNat) .non
  | _ => False
theorem mu_ins : MuS X "list.insert" gIns := ⟨_, mt_insert, fun F H l a vs ds xs P Q s h r rs g post => by
  unfold gIns at g
  split at g
  · obtain ⟨w, xs, e, rw', rx⟩ := rs.uncons
    obtain ⟨w2, xs, e2, rw2, rx⟩ := rx.uncons
    have := rx.isNil
    unfold Rp at rw'
    subst this e2 e rw'
    exact ⟨a, vs, _, w2, rfl, rfl, h, lt16 (by rw [r.len]; exact g.1.1), g.1.2.1, g.1.2.2, post _ _ _ _ g.2 ⟨_, upd_same, RpL.app (RpL.app (RpL.take _ r) (RpL.one rw2)) (RpL.drop _ r)⟩ rp_non⟩
  · exact g.elim⟩
/-- xs[i] = y, xs an own list -/
theorem qs_lput {k v : Expr} {wk wv : WE α} {pos' : Pos} (ho : PE X o (tVar i)) (hk : QE X E k wk) (hv : QE X E v wv)
    (hs : swapsWithSole [.Subscript o k pos'] v pos.line X.env = pure false := by rfl) (hw : swappedStores [.Subscript o k pos'] v X.env = pure none := by rfl)
    (h1 : (assignEach [.Subscript o k pos'] X.env).map (·.2) = [assign (.Subscript o k pos') X.env] := by rfl)
    (ha : ∀ v, assign (.Subscript o k pos') X.env v = (do
      let ov ← holding [v] (eval o X.env)
      let iv ← holding [v, ov] (eval k X.env)
      standAt pos'
      holding [v, ov, iv] (setItem ov iv v)
      release [v, ov, iv] []) := by intro _; rfl) : QS X E (.Assign [.Subscript o k pos'] v pos) (wLput i wk wv) := (ps_asg hv (pg_sub ho hk set_list ha) hs hw h1).im fun D σ H h => by
  obtain ⟨hk, ρ, F, oa, Dp, o, hw, en⟩ := h
  refine ⟨hk, ρ, F, oa, _, o, hw, fun t ρ1 yv F1 H1 oa1 q1 s1 o1 tv => ?_⟩
  obtain ⟨y, ρ2, F2, oa2, s2, o2, ry, ⟨⟨d0, e0⟩, q2⟩⟩ := fz_ok o1 tv q1
  obtain ⟨v0, ev0, _⟩ := o2.sl i _ e0
  refine ⟨v0, ev0, hk, ρ2, F2, oa2, _, o2, q2, fun u ρ3 kv F3 H3 oa3 q3 s3 o3 tk => ?_⟩
  obtain ⟨kd, wkd, q4⟩ := rd_ok o3 tk q3
  try dsimp only at q4
  split at q4
  · rename_i l z e
    obtain ⟨j, ej, hj, q5⟩ := q4
    have := vw_int wkd
    subst this
    obtain ⟨a, ea, ⟨vs, w, rl⟩, mu⟩ := o3.mut (d' := .lst (l.set j y)) e
    have : v0 = .ref a := by
      rw [ev0] at ea
      cases ea
      rfl
    subst this
    exact ⟨a, vs, z, j, rfl, rfl, w, by rw [rl.len]; exact ej, en.nx _ F3 _ oa3 _ q5 ((s1.trans s2).trans s3) (mu _ ⟨_, upd_same, RpL.set j rl (ry.mono s3)⟩)⟩
  · exact q4.elim
end Pu

namespace Tg
open PySem PySem.Spec PyProof.Rows L2 Ow
abbrev lLaw : Stmt := top 39
def spLaw (K : PySem.W.Frag) : Sp := fun vs H Q _ => ∃ (a : Addr) (ns : List Int), vs = [.ref a] ∧ SqL K H a (ns.map V.int) ∧ ns.length ≤ 63 ∧ ∀ H', Q (.bl true) H'
abbrev lawN : List Str := ["_law_script", "_law_base", "_law_box_here", "_law_good", "_law_turn", "_law_bent_here", "_law_more", "_law_places", "_law_edges", "_law_due_here"]
theorem scLaw : FnScope lawN ["_law_script"] (defScope lLaw) := ⟨rfl, rfl, rfl, by decide +kernel, rfl, by decide +kernel, by decide +kernel⟩
/-- what the law's own model promises -/
def spLDue : Sp := fun vs H Q _ => ∃ W R wv rv, vs = [wv, rv] ∧ Vd H W wv ∧ Vd H R rv ∧ Ow.gd W = true ∧ Ow.gd R = true ∧ Lim W ∧ Lim R ∧ (dueT W R = none → ∀ H', Same H H' → Q .non H') ∧
  (∀ wd i, dueT W R = some (wd, i) → ∀ p H', Same H H' → H' p = some (.tup [.str wd, .int i]) → Q (.ref p) H')
structure Cs (P : Program) (w : World) (K : PySem.W.Frag) (mg : Str → Option Value) (base : Heap) : Prop where
  T : TxtP mg
  b_repr : mg "repr" = none
  cBox : Cal P w K mg base 1 "_law_box" ["_law_script", "_law_base"] (spBox K)
  cTake : Cal P w K mg base 1 "_law_take" ["_law_box_here", "_law_many"] spTake
  cSize : Cal P w K mg base 2 "_law_size" ["_law_box_here"] spSize
  cTree : Cal P w K mg base 4 "_law_tree" ["_law_box_here", "_law_most"] spTree
  cDue : Pu.CalGx P w K mg base 3 "_law_due" ["_law_places", "_law_edges"] spLDue
  cTold : Cal P w K mg base 6 "_law_told" ["_law_places", "_law_edges"] spLTold
  cBent : Cal P w K mg base 6 "_law_bent" lbP spBent
/-! ### what is told -/
def toldD (W R : PyData) : PyData := match dueT W R with
  | none => .list [W, R, .int ((itemsD W).length : Nat)]
  | some (wd, i) => .tuple [.str wd, .int i]
structure Show (d : PyData) : Prop where
  sh : d.showable = true
  nd : d.hasDict = false
  dp : d.depth ≤ 64
  sz : d.shown.length ≤ sizeLine
theorem showA {ds : List PyData} {n S : Nat} (h : ∀ d ∈ ds, Good d n S) (hn : n < 64) (hw : wtA ds ≤ 10000000) : Show (.list ds) ∧ Show (.tuple ds) := by
  obtain ⟨a1, a2, a3, a4⟩ := gdA_show (gdA_iff.mpr fun d hd => (h d hd).gd)
  have y := depthA_le fun d hd => (h d hd).dp
  refine ⟨⟨a1, a2, ?_, ?_⟩, ⟨a1, a2, ?_, ?_⟩⟩
  · show PyData.depthAll ds + 1 ≤ 64
    omega
  · show (listText (PyData.shownAll ds)).length ≤ sizeLine
    have z := listText_len_le (PyData.shownAll ds)
    rw [sizeLine_eq]
    omega
  · show PyData.depthAll ds + 1 ≤ 64
    omega
  · show (tupleText (PyData.shownAll ds)).length ≤ sizeLine
    have z := tupleText_len_le (PyData.shownAll ds)
    rw [sizeLine_eq]
    omega
theorem goodNat {i : Int} (h0 : 0 ≤ i) (h1 : i < 1000000000) : Good (.int i) 0 200 := by
  refine ⟨?_, Nat.zero_le _, Nat.le_refl _⟩
  show decide (i.natAbs.log2 < 100) = true
  rw [decide_eq_true_eq]
  have : i.natAbs < 2 ^ 30 := by
    have e : (2 : Nat) ^ 30 = 1073741824 := by decide
    omega
  exact Nat.lt_of_lt_of_le (PySem.Flt.log2_lt_of (by decide) this) (by decide)
theorem items_len {d : PyData} (h : Lim d) : (itemsD d).length ≤ 2000000 := by
  cases d <;> first | exact Nat.zero_le _ | skip
  exact h.len
theorem goodW (x : Str) (h : PyData.strOk x = true ∧ x.length ≤ 6) : Good (.str x) 0 100 := ⟨h.1, Nat.le_refl _, by show 10 * x.length + 10 ≤ 100; omega⟩
theorem find_lt {p : Nat → Bool} {n i : Nat} (h : (List.range n).find? p = some i) : i < n := List.mem_range.mp (List.mem_of_find?_eq_some h)
theorem join_fit {ws : List Str} {es : List Edg} {wd : Str} {i : Int} (l1 : ws.length ≤ 2000000) (l2 : es.length ≤ 2000000) (h : joinD ws es = some (wd, i)) : Good (.str wd) 0 100 ∧ Good (.int i) 0 200 := by
  unfold joinD at h
  split at h
  · rename_i j hj
    have := find_lt hj
    cases h
    exact ⟨goodW _ (by decide +kernel), goodNat (by omega) (by omega)⟩
  · split at h
    · rename_i j hj
      have := find_lt hj
      cases h
      exact ⟨goodW _ (by decide +kernel), goodNat (by omega) (by omega)⟩
    · cases h
theorem due_fit {W R : PyData} {wd : Str} {i : Int} (lw : Lim W) (lr : Lim R) (h : dueT W R = some (wd, i)) : Good (.str wd) 0 100 ∧ Good (.int i) 0 200 := by
  unfold dueT at h
  have a1 := items_len lw
  have a2 := items_len lr
  have b1 : (strsOf W).length = (itemsD W).length := List.length_map ..
  have b2 : (edgsOf R).length = (itemsD R).length := List.length_map ..
  split at h
  · split at h
    · split at h
      · rename_i j hj
        have := find_lt hj
        cases h
        exact ⟨goodW _ (by decide +kernel), goodNat (by omega) (by omega)⟩
      · split at h
        · rename_i j hj
          have := find_lt hj
          cases h
          exact ⟨goodW _ (by decide +kernel), goodNat (by omega) (by omega)⟩
        · exact join_fit (by omega) (by omega) h
    · cases h
      exact ⟨goodW _ (by decide +kernel), goodNat (by omega) (by omega)⟩
  · cases h
    exact ⟨goodW _ (by decide +kernel), goodNat (by omega) (by omega)⟩
theorem told_show {W R : PyData} {n S : Nat} (gW : Good W n S) (gR : Good R n S) (hn : n < 64) (hS : S ≤ 4000000) : Show (toldD W R) := by
  have lw : Lim W := Nat.le_trans gW.wt hS
  have lr : Lim R := Nat.le_trans gR.wt hS
  unfold toldD
  have w1 := gW.wt
  have w2 := gR.wt
  have a1 := items_len lw
  cases h : dueT W R with
  | none =>
    refine (showA (n := n) (S := S + 200) (fun d hd => ?_) hn ?_).1
    · rcases List.mem_cons.mp hd with rfl | hd
      · exact gW.mono (Nat.le_refl _) (by omega)
      rcases List.mem_cons.mp hd with rfl | hd
      · exact gR.mono (Nat.le_refl _) (by omega)
      simp at hd
      subst hd
      exact (goodNat (by omega) (by omega)).mono (Nat.zero_le _) (by omega)
    · show wt W + 2 + (wt R + 2 + (200 + 2 + 0)) ≤ _
      omega
  | some p =>
    obtain ⟨wd, i⟩ := p
    obtain ⟨g1, g2⟩ := due_fit lw lr h
    refine (showA (n := 0) (S := 200) (fun d hd => ?_) (by decide) ?_).2
    · rcases List.mem_cons.mp hd with rfl | hd
      · exact g1.mono (Nat.le_refl _) (by omega)
      simp at hd
      subst hd
      exact g2
    · have := g1.wt
      show wt (.str wd) + 2 + (200 + 2 + 0) ≤ _
      omega
/-! ### the drawn tree -/
theorem nm_okS {n : List Nat} (h : isNm n = true) : PyData.strOk (sL n) = true := by
  unfold isNm at h
  simp only [Bool.and_eq_true] at h
  have h2 := List.all_eq_true.mp h.2
  show (Array.all _ _) = true
  rw [Array.all_eq_true']
  intro c hc
  have hc2 : c ∈ n := by simpa [sL] using hc
  have h3 := h2 c hc2
  simp at h3
  have : c < 1114112 := by omega
  simpa using this
theorem nm_good {n : List Nat} (h : isNm n = true) : Good (.str (sL n)) 0 70 := by
  have h0 := h
  unfold isNm at h0
  simp only [Bool.and_eq_true, decide_eq_true_eq] at h0
  have e : (sL n).length = n.length := by simp [sL, Str.length]
  exact ⟨nm_okS h, Nat.le_refl _, by show 10 * (sL n).length + 10 ≤ 70; omega⟩
def edDt (e : Ed) : PyData := .tuple [.str (sL e.2.1), .str (sL e.2.2)]
def treeW (ns : List (List Nat)) : PyData := .tuple (ns.map fun n => .str (sL n))
def treeR (L : List Ed) : PyData := .tuple (L.map edDt)
theorem vdA_map {α : Type} {H : Hp} {f : α → V} {g : α → PyData} : ∀ {l : List α}, (∀ x ∈ l, Vd H (g x) (f x)) → VdA H (l.map g) (l.map f)
  | [], _ => VdA.nil
  | x :: l, h => VdA.cons (h x List.mem_cons_self) (vdA_map fun y hy => h y (List.mem_cons_of_mem _ hy))
theorem wtA_le {S : Nat} : ∀ {ds : List PyData}, (∀ d ∈ ds, wt d ≤ S) → wtA ds ≤ ds.length * (S + 2)
  | [], _ => Nat.zero_le _
  | d :: ds, h => by
    have h1 := h d List.mem_cons_self
    have h2 := wtA_le fun e he => h e (List.mem_cons_of_mem _ he)
    rw [wtA_cons, List.length_cons, Nat.add_mul]
    omega
theorem tree_pr {H : Hp} {p : Addr} {most : Nat} {ns ns0 : List (List Nat)} {L L0 : List Ed} (hm : most ≤ 40) (h : TreeAt H p most ns ns0 L L0) : PrAt H p (treeW ns) (treeR L) ∧ Good (treeW ns) 2 7990 ∧ Good (treeR L) 2 7990 := by
  obtain ⟨⟨pp, pe, e, ew, er⟩, nm, n1, n2, pn, pL, gr, ed⟩ := h
  have gn : ∀ n ∈ ns, Good (.str (sL n)) 0 70 := fun n hn => nm_good (nm.ok n hn)
  have lL : L.length + 1 = ns.length := by
    have := pL.length_eq
    rw [gr.len] at this
    omega
  refine ⟨⟨⟨_, _, e, Vd.ofTup ew (vdA_map fun n _ => Vd.mkStr _), Vd.ofTup er (vdA_map fun r hr => ?_)⟩⟩, ?_, ?_⟩
  · exact Vd.ofTup (ed r hr) (VdA.cons (Vd.mkStr _) (VdA.one (Vd.mkStr _)))
  · refine Good.made (n := 1) (fun d hd => ?_) ?_
    · obtain ⟨n, hn, rfl⟩ := List.mem_map.mp hd
      exact (gn n hn).mono (by omega) (by omega)
    · have : wtA (ns.map fun n => PyData.str (sL n)) ≤ (ns.map fun n => PyData.str (sL n)).length * (70 + 2) := wtA_le fun d hd => by
        obtain ⟨n, hn, rfl⟩ := List.mem_map.mp hd
        exact (gn n hn).wt
      rw [List.length_map] at this
      omega
  · have g0 : ∀ k, k < ns.length → Good (.str (sL (ns0.getD k []))) 0 70 := fun k hk => by
      have hk0 : k < ns0.length := by rw [← pn.length_eq]; exact hk
      have : ns0.getD k [] ∈ ns := by
        rw [pn.mem_iff, List.getD_eq_getElem?_getD, List.getElem?_eq_getElem hk0]
        exact List.getElem_mem hk0
      exact gn _ this
    have gr2 : ∀ r ∈ L, Good (edDt r) 1 200 := fun r hr => by
      obtain ⟨i, hi, ei⟩ := List.mem_iff_getElem.mp (pL.mem_iff.mp hr)
      obtain ⟨a, ha, c⟩ := gr.at_ i r (by rw [List.getElem?_eq_getElem hi, ei])
      have hi2 : i < ns.length - 1 := by rw [← gr.len]; exact hi
      have g1 := g0 (i + 1) (by omega)
      have g2 := g0 a (by omega)
      have gg : Good (.str (sL r.2.1)) 0 70 ∧ Good (.str (sL r.2.2)) 0 70 := by
        rcases c with c | c <;> rw [c]
        · exact ⟨g1, g2⟩
        · exact ⟨g2, g1⟩
      refine Good.made (n := 0) (fun d hd => ?_) ?_
      · rcases List.mem_cons.mp hd with rfl | hd
        · exact gg.1.mono (Nat.le_refl _) (by omega)
        simp at hd
        subst hd
        exact gg.2.mono (Nat.le_refl _) (by omega)
      · have w1 := gg.1.wt
        have w2 := gg.2.wt
        show wt (.str (sL r.2.1)) + 2 + (wt (.str (sL r.2.2)) + 2 + 0) + 10 ≤ _
        omega
    refine Good.made (n := 1) (fun d hd => ?_) ?_
    · obtain ⟨r, hr, rfl⟩ := List.mem_map.mp hd
      exact (gr2 r hr).mono (by omega) (by omega)
    · have : wtA (L.map edDt) ≤ (L.map edDt).length * (200 + 2) := wtA_le fun d hd => by
        obtain ⟨r, hr, rfl⟩ := List.mem_map.mp hd
        exact (gr2 r hr).wt
      rw [List.length_map] at this
      omega
/-- depth and bulk after i changes -/
def lvl : Nat → Nat × Nat
  | 0 => (2, 7990)
  | i + 1 => (2 * (lvl i).1 + 4, 7 * (lvl i).2 + 500)
theorem lvl_ok {i : Nat} (h : i < 3) : 2 ≤ (lvl i).1 ∧ (lvl i).1 ≤ 20 ∧ 5000 ≤ (lvl i).2 ∧ (lvl i).2 ≤ 400000 := by
  match i, h with
  | 0, _ => decide
  | 1, _ => decide
  | 2, _ => decide
theorem lvl_top {i : Nat} (h : i ≤ 3) : (lvl i).1 ≤ 44 ∧ (lvl i).2 ≤ 2800000 := by
  match i, h with
  | 0, _ => decide
  | 1, _ => decide
  | 2, _ => decide
  | 3, _ => decide
end Tg

namespace Tg
open PySem PySem.Spec PyProof.Rows L2 Ow
section
variable {P : Program} {w : World} {K : PySem.W.Frag} {mg : Str → Option Value} {base : Heap}
theorem ok_law {f : Addr} {fd : FuncData} (F : Fun K "law" "law" lLaw f fd) (c : Cs P w K mg base) : FnOkG P w K mg base CX0 7 f fd ["_law_script"] (spLaw K) := by
  refine okG F scLaw (fun vs H Q E h => ?_) (fun cdv A outer s H vs Q E hg hr h => ?_)
  · obtain ⟨a, ns, rfl, _⟩ := h
    rfl
  · obtain ⟨a, ns, rfl, hS, hlen, k⟩ := h
    obtain ⟨T, b_repr, cBox, cTake, cSize, cTree, cDue, cTold, cBent⟩ := c
    have nd := scLaw.nd
    refine ⟨_, (pss_cons (ps_for PassesOwn.never rfl (pi_range1 (by rfl) T.b_range (pa_cons pe_int pa_nil)) (pg_name (i := 1) nd rfl (.inl rfl))
        (pss_cons (ps_set (i := 2) nd rfl (.inl rfl) (pe_cal cBox (hr.mono (by decide)) (by rfl) (pa_cons (pv 0) (pa_cons (pv 1) pa_nil))))
          (pss_cons (ps_set (i := 3) nd rfl (.inl rfl) (pe_cal cTree (hr.mono (by decide)) (by rfl) (pa_cons (pv 2) (pa_cons (pe_cal cSize (hr.mono (by decide)) (by rfl) (pa_cons (pv 2) pa_nil)) pa_nil))))
          (pss_one (ps_for PassesOwn.never rfl (pi_range1 (by rfl) T.b_range (pa_cons pe_int pa_nil)) (pg_name (i := 4) nd rfl (.inl rfl))
            (pss_cons (ps_set (i := 5) nd rfl (.inl rfl) (pv 3))
              (pss_cons (ps_for PassesOwn.never rfl (pi_range1 (by rfl) T.b_range (pa_cons (pe_cal cTake (hr.mono (by decide)) (by rfl) (pa_cons (pv 2) (pa_cons pe_int pa_nil))) pa_nil)) (pg_name (i := 6) nd rfl (.inl rfl))
                (pss_one (ps_set (i := 5) nd rfl (.inl rfl) (pe_cal cBent (hr.mono (by decide)) (by rfl) (pa_cons (pv 2) (pa_cons (pe_ix ix_tup (pv 5) pe_int (fun _ _ => rfl)) (pa_cons (pe_ix ix_tup (pv 5) pe_int (fun _ _ => rfl)) pa_nil)))))))
              (pss_one (ps_for PassesOwn.never rfl (pi_tup (pe_tup (pa_cons (pv 5) (pa_cons (pv 3) (pa_cons (pv 5) pa_nil))))) (pg_tup (by rfl) (pgs_cons (pg_name (i := 7) nd rfl (.inl rfl)) (pgs_cons (pg_name (i := 8) nd rfl (.inl rfl)) pgs_nil)))
                (pss_cons (ps_set (i := 9) nd rfl (.inl rfl) (Pu.pe_calGx cDue hg (hr.mono (by decide)) (by rfl) (pa_cons (pv 7) (pa_cons (pv 8) pa_nil))))
                  (pss_cons (ps_if (pt_cmpR op_isN (pv 9) pe_non (nomark _))
                    (pss_one (ps_set (i := 9) nd rfl (.inl rfl) (pe_lst (pa_cons (pv 7) (pa_cons (pv 8) (pa_cons (pe_callB call_len_seq (by rfl) T.b_len PySem.boot_len (pa_cons (pv 7) pa_nil)) pa_nil))))))
                    pss_nil)
                  (pss_one (ps_if (pt_cmpR op_ne (pe_callB (call_reprD hg hr) (by rfl) b_repr (by decide +kernel) (pa_cons (pe_cal cTold (hr.mono (by decide)) (by rfl) (pa_cons (pv 7) (pa_cons (pv 8) pa_nil))) pa_nil)) (pe_callB (call_reprD hg hr) (by rfl) b_repr (by decide +kernel) (pa_cons (pv 9) pa_nil)) (nomark _))
                    (pss_one (ps_ret pe_bl))
                    pss_nil)))))))))))))
      (pss_one (ps_ret pe_bl))), ?_⟩
    refine ⟨_, rfl, (by decide), (by decide), for_range (n := 3) (fun i σ H1 => ∃ v1 v2 v3 v4 v5 v6 v7 v8 v9 : Option V, σ = [some (.ref a), v1, v2, v3, v4, v5, v6, v7, v8, v9] ∧ Same H H1)
      ⟨_, _, _, _, _, _, _, _, _, rfl, Same.refl H⟩ ?_ ?_⟩
    · rintro i σ H1 hi ⟨v1, v2, v3, v4, v5, v6, v7, v8, v9, rfl, s1⟩
      refine ⟨_, rfl, _, rfl, a, ns, _, rfl, s1.seq hS, hlen, by omega, by omega, fun b Lb H2 nb nL s2 B2 => ?_⟩
      have s02 : Same H H2 := s1.trans s2
      have nb0 := s1.free nb
      have nL0 := s1.free nL
      try dsimp only [tNext]
      refine ⟨_, rfl, _, rfl, b, Lb, rfl, B2, fun mst H2b m1 m40 B2b k2b => ⟨b, Lb, mst, rfl, m1, m40, B2b, fun p ns ns0 es es0 H3 np wa B3 k3 => ?_⟩⟩
      obtain ⟨pA, gW, gR⟩ := tree_pr m40 wa
      have s3 : Same H H3 := (s02.kp nb0 nL0 k2b).kp nb0 nL0 k3
      clear s02 s2 s1 k3 k2b wa np B2 B2b
      generalize treeW ns = W at pA gW
      generalize treeR es = R at pA gR
      try dsimp only [tNext]
      refine ⟨_, rfl, (by decide), (by decide), for_range (n := 6) (fun i2 σ G => ∃ v4 v5 v6 v7 v8 v9 : Option V, σ = [some (.ref a), some (.int (0 + i)), some (.ref b), some (.ref p), v4, v5, v6, v7, v8, v9] ∧ PrAt G p W R ∧ Box b Lb G ∧ Same H G)
        ⟨_, _, _, _, _, _, rfl, pA, B3, s3⟩ ?_ ?_⟩
      · rintro i2 σ G hi2 ⟨v4, v5, v6, v7, v8, v9, rfl, pG, BG, sG⟩
        refine ⟨_, rfl, ?_⟩
        try dsimp only [tNext]
        refine ⟨_, rfl, b, Lb, 4, rfl, by decide, by decide +kernel, BG, fun d H4 a4 c4 B4 k4 => ?_⟩
        have sH4 := sG.kp nb0 nL0 k4
        have p4 := pG.keep (kp_tkept k4 BG)
        refine ⟨_, rfl, by omega, by omega, ?_⟩
        refine for_range (n := d.toNat) (fun i3 σ G => ∃ (q : Addr) (W' R' : PyData) (u6 u7 u8 u9 : Option V), σ = [some (.ref a), some (.int (0 + i)), some (.ref b), some (.ref p), some (.int (0 + i2)), some (.ref q), u6, u7, u8, u9] ∧ PrAt G q W' R' ∧ Good W' (lvl i3).1 (lvl i3).2 ∧ Good R' (lvl i3).1 (lvl i3).2 ∧ PrAt G p W R ∧ Box b Lb G ∧ Same H G)
          ⟨p, W, R, _, _, _, _, rfl, p4, gW, gR, p4, B4, sH4⟩ ?_ ?_
        · rintro i3 σ G hi3 ⟨q, W', R', u6, u7, u8, u9, rfl, pq, g1, g2, pG, BG, sG⟩
          obtain ⟨⟨wv, rv, e, hw, hv⟩⟩ := pq
          have h3 : i3 < 3 := by omega
          obtain ⟨l1, l2, l0, l3⟩ := lvl_ok h3
          refine ⟨_, rfl, _, rfl, q, _, _, _, rfl, rfl, SqT.of e, (atI_nat (j := 0) rfl), _, rfl, q, _, _, _, rfl, rfl, SqT.of e, (atI_nat (j := 1) rfl), b, Lb, W', R', wv, rv, (lvl i3).1, (lvl i3).2, rfl, BG, hw, hv, g1, g2, l1, l2, l0, l3, fun q2 W2 R2 wv2 rv2 G2 e2 hw2 hr2 g3 g4 B2 k2 => ?_⟩
          exact ⟨q2, W2, R2, _, _, _, _, rfl, ⟨⟨wv2, rv2, e2, hw2, hr2⟩⟩, g3, g4, pG.keep (kp_tkept k2 BG), B2, sG.kp nb0 nL0 k2⟩
        rintro σ H5 ⟨q, W', R', u6, u7, u8, u9, rfl, pq, g1, g2, pG, BG, sG⟩
        obtain ⟨l1, l2⟩ := lvl_top (i := d.toNat) (by omega)
        have g1 := g1.mono l1 l2
        have g2 := g2.mono l1 l2
        try dsimp only [tNext]
        refine ⟨_, rfl, _, rfl, _, rfl, (by show 3 ≤ sizeLine; decide), fun tp ntp => ⟨tp, rfl, ⟨_, SqT.of upd_same⟩, ?_⟩⟩
        have s6 : Same H5 (upd H5 tp (.tup [.ref q, .ref p, .ref q])) := same_upd (Same.refl _) ntp
        have etp : (upd H5 tp (.tup [.ref q, .ref p, .ref q])) tp = some (.tup [.ref q, .ref p, .ref q]) := upd_same
        generalize upd H5 tp (.tup [.ref q, .ref p, .ref q]) = H6 at s6 etp ⊢
        have pq6 := pq.keep s6.tkept
        have pp6 := pG.keep s6.tkept
        have BG6 := BG.same s6
        have sG6 := sG.trans s6
        refine for_tup (K := K) (a := tp) (xs := [.ref q, .ref p, .ref q]) (fun _ σ G => ∃ v7 v8 v9 : Option V, σ = [some (.ref a), some (.int (0 + i)), some (.ref b), some (.ref p), some (.int (0 + i2)), some (.ref q), u6, v7, v8, v9] ∧ Same H6 G)
          ⟨_, _, _, rfl, Same.refl _⟩ (fun _ σ G _ ⟨_, _, _, _, s⟩ => SqT.of (s _ _ etp)) ?_ ?_
        · rintro j v σ G hj ⟨v7, v8, v9, rfl, sx⟩
          obtain ⟨r, X, Y, rfl, pr, gX, gY⟩ : ∃ (r : Addr) (X Y : PyData), v = .ref r ∧ PrAt G r X Y ∧ Good X 44 2800000 ∧ Good Y 44 2800000 := by
            have hq : ∃ (r : Addr) (X Y : PyData), V.ref q = .ref r ∧ PrAt G r X Y ∧ Ow.Good X 44 2800000 ∧ Ow.Good Y 44 2800000 := ⟨q, W', R', rfl, pq6.keep sx.tkept, g1, g2⟩
            match j, hj with
            | 0, hj => cases hj; exact hq
            | 1, hj => cases hj; exact ⟨p, W, R, rfl, pp6.keep sx.tkept, gW.mono (by decide) (by decide), gR.mono (by decide) (by decide)⟩
            | 2, hj => cases hj; exact hq
            | j + 3, hj => simp at hj
          obtain ⟨⟨wv, rv, er, hw, hv⟩⟩ := pr
          have LX : Lim X := Nat.le_trans gX.wt (by decide)
          have LY : Lim Y := Nat.le_trans gY.wt (by decide)
          have shw := told_show gX gY (by decide) (by decide)
          refine ⟨r, _, rfl, SqT.of er, rfl, _, _, rfl, _, _, rfl, rfl, ?_⟩
          try dsimp only
          have fin : ∀ {σ : L2.St} {G2 : Hp} {D : Ends} {l : Addr}, σ[7]? = some (some wv) → σ[8]? = some (some rv) → σ[9]? = some (some (.ref l)) → Same G G2 → (∀ G3, Same G2 G3 → Dp K G3 (.ref l) (toldD X Y)) → (∀ G3, Same G G3 → D.nx σ G3) →
              tIfS (tTest (tOp rNe (tCB (rReprD K) (tCons (tCall spLTold [] E0 (tCons (tVar 7) (tCons (tVar 8) tNil))) tNil)) (tCB (rReprD K) (tCons (tVar 9) tNil)))) (tRet (tC (.bl false))) tNext D σ G2 := by
            intro σ G2 D l e7 e8 e9 sG2 dl kD
            refine ⟨_, e7, _, e8, X, Y, wv, rv, rfl, hw.keep sG2.tkept, hv.keep sG2.tkept, LX, LY, ?_, ?_⟩
            · intro hd p2 G3 n2 t2 e2
              have S3 := sG2.trans t2
              have dd : Dp K G3 (.ref p2) (toldD X Y) := by
                unfold toldD
                rw [hd]
                exact .lst (SqL.of e2) (.cons (hw.keep S3.tkept).dp (.cons (hv.keep S3.tkept).dp (.cons (.int _) .nil)))
              refine ⟨p2, _, rfl, dd, shw.sh, shw.nd, shw.dp, shw.sz, ?_⟩
              refine ⟨_, e9, l, _, rfl, dl _ t2, shw.sh, shw.nd, shw.dp, shw.sz, rfl, _, rfl, iteNS rfl ?_⟩
              exact kD _ S3
            · intro wd e hd p2 G3 n2 t2 e2
              have S3 := sG2.trans t2
              have dd : Dp K G3 (.ref p2) (toldD X Y) := by
                unfold toldD
                rw [hd]
                exact .tup (SqT.of e2) (.cons (.str _) (.cons (.int _) .nil))
              refine ⟨p2, _, rfl, dd, shw.sh, shw.nd, shw.dp, shw.sz, ?_⟩
              refine ⟨_, e9, l, _, rfl, dl _ t2, shw.sh, shw.nd, shw.dp, shw.sz, rfl, _, rfl, iteNS rfl ?_⟩
              exact kD _ S3
          -- what is due
          refine ⟨_, rfl, _, rfl, X, Y, wv, rv, rfl, hw, hv, gX.gd, gY.gd, LX, LY, ?_, ?_⟩
          · intro hd G1 t1
            try dsimp only [tNext]
            refine ⟨_, rfl, rfl, _, rfl, iteT ?_⟩
            obtain ⟨f1, f2⟩ := Bool.and_eq_true_iff.mp (due_form hd)
            obtain ⟨ds, rfl⟩ : ∃ ds, X = .tuple ds := ⟨_, strs_back f1⟩
            obtain ⟨xa, xs, rfl, ea, hs⟩ := (hw.keep t1.tkept).tup
            refine ⟨_, rfl, _, rfl, _, rfl, xa, _, rfl, .inr (SqT.of ea), (by show 3 ≤ sizeLine; decide), fun l nl => ?_⟩
            have s7 := same_upd (o := .lst [.ref xa, rv, .int (xs.length : Nat)]) (Same.refl G1) nl
            have el : (upd G1 l (.lst [.ref xa, rv, .int (xs.length : Nat)])) l = some (.lst [.ref xa, rv, .int (xs.length : Nat)]) := upd_same
            generalize upd G1 l (.lst [.ref xa, rv, .int (xs.length : Nat)]) = G2 at s7 el ⊢
            try dsimp only [tNext]
            refine fin rfl rfl rfl (t1.trans s7) (fun G3 s8 => ?_) (fun G3 s8 => ⟨_, _, _, rfl, sx.trans s8⟩)
            have S3 := (t1.trans s7).trans s8
            have len : xs.length = (itemsD (.tuple ds)).length := hs.len
            unfold toldD
            rw [hd, ← len]
            exact .lst (SqL.of (s8 _ _ el)) (.cons (hw.keep S3.tkept).dp (.cons (hv.keep S3.tkept).dp (.cons (.int _) .nil)))
          · intro wd e hd t G1 t1 et
            try dsimp only [tNext]
            refine ⟨_, rfl, rfl, _, rfl, iteFx (decide_eq_false (by intro z; cases z)) ?_⟩
            try dsimp only [tNext]
            refine fin rfl rfl rfl t1 (fun G3 s8 => ?_) (fun G3 s8 => ⟨_, _, _, rfl, sx.trans s8⟩)
            unfold toldD
            rw [hd]
            exact .tup (SqT.of (s8 _ _ et)) (.cons (.str _) (.cons (.int _) .nil))
        · rintro σ G ⟨v7, v8, v9, rfl, sx⟩
          exact ⟨_, _, _, _, _, _, rfl, pp6.keep sx.tkept, BG6.same sx, sG6.trans sx⟩
      · rintro σ G ⟨v4, v5, v6, v7, v8, v9, rfl, pG, BG, sG⟩
        exact ⟨_, _, _, _, _, _, _, _, _, rfl, sG⟩
    · rintro σ H1 ⟨v1, v2, v3, v4, v5, v6, v7, v8, v9, rfl, s1⟩
      exact k H1
end
end Tg

namespace Tg
open PySem PySem.Spec PyProof.Rows L2 Ow Pu
abbrev strT (ws : List Str) : D := .tup (ws.map D.str)
abbrev edgD2 (e : Edg) : D := .tup [.str e.1, .str e.2]
abbrev edgT (es : List Edg) : D := .tup (es.map edgD2)
def joinV (ws : List Str) (es : List Edg) : D := match joinD ws es with
  | none => .non
  | some (wd, i) => .tup [.str wd, .int i]
abbrev grD1 (g : List Str) : D := .lst (g.map D.str)
abbrev grD (gs : List (List Str)) : D := .lst (gs.map grD1)
abbrev unS (ws : List Str) (es : List Edg) (m : Unit) (gs : List (List Str)) : PSt Unit := ⟨[some (.fz (strT ws)), some (.fz (edgT es)), some (.fz (grD gs)), none, none, none, none, none, none, none, none, none], m⟩
theorem pick0 {gs : List (List Str)} {x : Str} (h : ∃ g ∈ gs, x ∈ g) : ∃ f r, (gs.filter fun g => decide (x ∈ g)) = f :: r ∧ f ∈ gs ∧ x ∈ f := by
  obtain ⟨g, hg, hx⟩ := h
  cases e : gs.filter fun g => decide (x ∈ g) with
  | nil =>
    have : g ∈ gs.filter fun g => decide (x ∈ g) := List.mem_filter.mpr ⟨hg, decide_eq_true hx⟩
    rw [e] at this
    cases this
  | cons f r =>
    have : f ∈ gs.filter fun g => decide (x ∈ g) := by rw [e]; exact List.mem_cons_self
    obtain ⟨h1, h2⟩ := List.mem_filter.mp this
    exact ⟨f, r, rfl, h1, of_decide_eq_true h2⟩
theorem fm_pick {α β : Type} {f : α → Option β} {g : α → β} {p : α → Bool} : ∀ {l : List α}, (∀ i ∈ l, f i = if p i = true then some (g i) else none) → l.filterMap f = (l.filter p).map g
  | [], _ => rfl
  | a :: l, h => by
    have ih := fm_pick (l := l) fun i hi => h i (List.mem_cons_of_mem _ hi)
    rw [List.filterMap_cons, List.filter_cons, h a List.mem_cons_self, ih]
    cases p a <;> rfl
theorem getD_in {α : Type} {l : List α} {d : α} {i : Nat} (h : i < l.length) : l.getD i d ∈ l := by
  rw [List.getD_eq_getElem?_getD, List.getElem?_eq_getElem h]
  exact List.getElem_mem h
theorem pdL_strs (g : List Str) : pdL (g.map D.str) = g.map PyData.str := by
  rw [pdL_map, List.map_map]
  rfl
theorem eqv_gr (g h : List Str) : PyData.eqv (pdT (grD1 g)) (pdT (grD1 h)) = decide (g = h) := by
  have e1 : pdT (grD1 g) = .list (g.map PyData.str) := by show PyData.list (pdL _) = _; rw [pdL_strs]
  have e2 : pdT (grD1 h) = .list (h.map PyData.str) := by show PyData.list (pdL _) = _; rw [pdL_strs]
  rw [e1, e2]
  exact eqv_strs g h
theorem nm_strOk {x : Str} (h : isNmS x = true) : PyData.strOk x = true := (nmS_good h).gd
theorem gr_plain {g : List Str} (h : ∀ x ∈ g, isNmS x = true) : Plain (grD1 g) := by
  refine ⟨?_, ?_⟩
  · show plnL (g.map D.str) = true
    rw [plnL_iff]
    intro d hd
    obtain ⟨x, hx, rfl⟩ := List.mem_map.mp hd
    exact nm_strOk (h x hx)
  · show dpL (g.map D.str) + 1 ≤ 60
    have := dpL_of (l := g.map D.str) (n := 0) fun d hd => by
      obtain ⟨x, hx, rfl⟩ := List.mem_map.mp hd
      exact Nat.le_refl _
    omega
section
variable {P : Program} {w : World} {K : PySem.W.Frag} {mg : Str → Option Value} {base : Heap}
def pUnl : QSp := fun ds Q _ => ∃ (ws : List Str) (es : List Edg), ds = [strT ws, edgT es] ∧ ws.Nodup ∧ 1 ≤ ws.length ∧ ws.length ≤ 40 ∧ es.length ≤ 2000000 ∧ (∀ x ∈ ws, isNmS x = true) ∧ (∀ e ∈ es, e.1 ∈ ws ∧ e.2 ∈ ws) ∧ Q (.fz (joinV ws es))
abbrev unN : List Str := ["_law_places", "_law_edges", "_law_groups", "_law_at", "_law_one", "_law_other", "_law_first", "_law_second", "_law_whole", "_law_away", "_law_place", "_law_group"]
theorem scUnl : FnScope unN ["_law_places", "_law_edges"] (defScope lUnl) := ⟨rfl, rfl, rfl, by decide +kernel, rfl, by decide +kernel, by decide +kernel⟩
theorem ok_Unl {f : Addr} {fd : FuncData} (F : Fun K "_law_unlinked" "_law_unlinked" lUnl f fd) (T : TxtP mg) : FnOkG P w K mg base (L2.CX P w) 1 f fd ["_law_places", "_law_edges"] (lsp R0 (up Unit pUnl)) := by
  refine pfn F scUnl (fun ds m Q E h => ?_) (fun X E ds m Q Ep eR nl eX hg hr xc h => ?_)
  · obtain ⟨ws, es, rfl, _⟩ := h
    rfl
  · obtain ⟨cdv, A, outer, s, H, W, rfl⟩ := eX
    obtain ⟨ws, es, rfl, nw, l1, l40, les, hnm, hen, q⟩ := h
    have nd := scUnl.nd
    have hu64 := u64 hr
    have hu65 := u65 hr
    refine ⟨_, ((qs_cons (qs_setLc (i := 2) (own := [("_law_place", 10)]) (vs := [10]) (g := (gName 10)) rfl nd rfl rfl (sw_true rfl rfl rfl (by decide +kernel)) (qi_any (qv 0)) (blkOk_by (own := [("_law_place", 10)]) (N := unN) (sc := defScope lUnl) (by decide +kernel)) (fun _ _ _ _ _ => (pg_name (i := 10) nd rfl (.inl rfl))) gs_name (fun _ _ _ _ _ => qts_nil) (fun _ _ _ _ _ => (q_lst (qa_cons (qv 10) qa_nil))))
      (qs_cons (qs_for (passes_of rfl) rfl (qi_enum (by rfl) T.b_enumerate (qv 1)) (pg_tup (by rfl) (pgs_cons (pg_name (i := 3) nd rfl (.inl rfl)) (pgs_cons (pg_tup (by rfl) (pgs_cons (pg_name (i := 4) nd rfl (.inr rfl)) (pgs_cons (pg_name (i := 5) nd rfl (.inr rfl)) pgs_nil))) pgs_nil))) (vs := [3, 4, 5]) (gs_tup (gss_cons gs_name (gss_cons (gs_tup (gss_cons gs_name (gss_cons gs_name gss_nil))) gss_nil)))
        (qs_cons (qs_set (i := 6) nd rfl (.inr rfl) (q_ix (q_lc (own := [("_law_group", 11)]) (vs := [11]) (g := (gName 11)) rfl nd (qi_any (qv 2)) (blkOk_by (own := [("_law_group", 11)]) (N := unN) (sc := defScope lUnl) (by decide +kernel)) (fun _ _ _ _ _ => (pg_name (i := 11) nd rfl (.inl rfl))) gs_name (fun _ _ _ _ _ => (qts_one (qt_cmp (os_in hu65) (qv 4) (qv 11) rfl))) (fun _ _ _ _ _ => (qv 11))) q_int (fun _ _ => rfl)))
          (qs_cons (qs_if (qt_cmp (os_in hu65) (qv 5) (qv 6) rfl)
            (qs_one (qs_ret (q_tup (qa_cons q_str (qa_cons (qv 3) qa_nil)))))
            qs_nil)
          (qs_cons (qs_set (i := 7) nd rfl (.inr rfl) (q_ix (q_lc (own := [("_law_group", 11)]) (vs := [11]) (g := (gName 11)) rfl nd (qi_any (qv 2)) (blkOk_by (own := [("_law_group", 11)]) (N := unN) (sc := defScope lUnl) (by decide +kernel)) (fun _ _ _ _ _ => (pg_name (i := 11) nd rfl (.inl rfl))) gs_name (fun _ _ _ _ _ => (qts_one (qt_cmp (os_in hu65) (qv 5) (qv 11) rfl))) (fun _ _ _ _ _ => (qv 11))) q_int (fun _ _ => rfl)))
          (qs_one (qs_set (i := 2) nd rfl (.inl rfl) (q_op os_add (q_lc (own := [("_law_group", 11)]) (vs := [11]) (g := (gName 11)) rfl nd (qi_any (qv 2)) (blkOk_by (own := [("_law_group", 11)]) (N := unN) (sc := defScope lUnl) (by decide +kernel)) (fun _ _ _ _ _ => (pg_name (i := 11) nd rfl (.inl rfl))) gs_name (fun _ _ _ _ _ => (qts_one (qt_w (qw_and (qt_cmp (os_ne hu64) (qv 11) (qv 6) (nomark _)) (qw_and1 (qt_cmp (os_ne hu64) (qv 11) (qv 7) (nomark _))))))) (fun _ _ _ _ _ => (qv 11))) (q_lst (qa_cons (q_op os_add (qv 6) (qv 7)) qa_nil)))))))))
      (qs_cons (qs_set (i := 8) nd rfl (.inr rfl) (q_ix (q_lc (own := [("_law_group", 11)]) (vs := [11]) (g := (gName 11)) rfl nd (qi_any (qv 2)) (blkOk_by (own := [("_law_group", 11)]) (N := unN) (sc := defScope lUnl) (by decide +kernel)) (fun _ _ _ _ _ => (pg_name (i := 11) nd rfl (.inl rfl))) gs_name (fun _ _ _ _ _ => (qts_one (qt_cmp (os_in hu65) (q_ix (qv 0) q_int (fun _ _ => rfl)) (qv 11) rfl))) (fun _ _ _ _ _ => (qv 11))) q_int (fun _ _ => rfl)))
      (qs_cons (qs_setLc (i := 9) (own := [("_law_at", 3), ("_law_place", 10)]) (vs := [3, 10]) (g := (gTup K 2 (gCons (gName 3) (gCons (gName 10) gNil)))) rfl nd rfl rfl (sw_true rfl rfl rfl (by decide +kernel)) (qi_enum (by rfl) T.b_enumerate (qv 0)) (blkOk_by (own := [("_law_at", 3), ("_law_place", 10)]) (N := unN) (sc := defScope lUnl) (by decide +kernel)) (fun _ _ _ _ _ => (pg_tupK K (pgs_cons (pg_name (i := 3) nd rfl (.inl rfl)) (pgs_cons (pg_name (i := 10) nd rfl (.inl rfl)) pgs_nil)))) (gs_tup (gss_cons gs_name (gss_cons gs_name gss_nil))) (fun _ _ _ _ _ => (qts_one (qt_cmp (os_nin hu65) (qv 10) (qv 8) rfl))) (fun _ _ _ _ _ => (qv 3)))
      (qs_one (qs_ret (q_ifE (qt_cmp (os_eq hu64) (qv 9) (q_lst qa_nil) (nomark _)) q_non (q_tup (qa_cons q_str (qa_cons (q_ix (qv 9) q_int (fun _ _ => rfl)) qa_nil))))))))))), ?_⟩
    have e0 : startP unN.length [strT ws, edgT es] m = ⟨[some (.fz (strT ws)), some (.fz (edgT es)), none, none, none, none, none, none, none, none, none, none], m⟩ := rfl
    rw [e0]
    clear e0
    refine seq_k fun N hN => ?_
    dsimp only [wNext, wSet, wRet, wRetN, wIf, wDrop, wVar, wC, wNil, wCons, wTup, wLst, wOp, wTst, wChain, wAnd, wOr, wNot, wAndV, wOrV, wNotV, wIfE, wUn, wTru, wCB, wCall, wSl, woN, woS, wRevT, wRevL, wYes, wItE, wItEn, wIt1, wIt2, wAsg, wgN, wgNil, wgCons, wgT, evs, wPar, wMu, wDput, wLput, PSt.puts, fzA, rdA, SV.tv, PSt.put, PSt.sg, slK_fz, slK_ow, st_fz, st_ow, st_br, fzT_fz, fzT_ow, fzT_br, rdT_fz, rdT_ow, rdT_br, retT_fz, retT_ow, retT_br, stS_fz, stS_ow, stS_br, svT_fz, svT_ow, svT_br, blT_bl, opK_some, intK_i, tupK_t, lstK_l, wLc, wFor, wipeP, List.map_cons, List.map_nil, List.set_cons_zero, List.set_cons_succ, List.getElem?_cons_zero, List.getElem?_cons_succ, sqD, ltD, iteTP, iteFP]
    refine lm_map .str (fun x => grD1 [x]) (by omega) (fun x hx yes no hy => ?_) ?_
    · dsimp only [lcC, wNext, wSet, wRet, wRetN, wIf, wDrop, wVar, wC, wNil, wCons, wTup, wLst, wOp, wTst, wChain, wAnd, wOr, wNot, wAndV, wOrV, wNotV, wIfE, wUn, wTru, wCB, wCall, wSl, woN, woS, wRevT, wRevL, wYes, wItE, wItEn, wIt1, wIt2, wAsg, wgN, wgNil, wgCons, wgT, evs, wPar, wMu, wDput, wLput, PSt.puts, fzA, rdA, SV.tv, PSt.put, PSt.sg, slK_fz, slK_ow, st_fz, st_ow, st_br, fzT_fz, fzT_ow, fzT_br, rdT_fz, rdT_ow, rdT_br, retT_fz, retT_ow, retT_br, stS_fz, stS_ow, stS_br, svT_fz, svT_ow, svT_br, blT_bl, opK_some, intK_i, tupK_t, lstK_l, wLc, wFor, wipeP, List.map_cons, List.map_nil, List.set_cons_zero, List.set_cons_succ, List.getElem?_cons_zero, List.getElem?_cons_succ, sqD, ltD, iteTP, iteFP]
      exact ⟨(by first | rfl | trivial), hy⟩
    dsimp only [wNext, wSet, wRet, wRetN, wIf, wDrop, wVar, wC, wNil, wCons, wTup, wLst, wOp, wTst, wChain, wAnd, wOr, wNot, wAndV, wOrV, wNotV, wIfE, wUn, wTru, wCB, wCall, wSl, woN, woS, wRevT, wRevL, wYes, wItE, wItEn, wIt1, wIt2, wAsg, wgN, wgNil, wgCons, wgT, evs, wPar, wMu, wDput, wLput, PSt.puts, fzA, rdA, SV.tv, PSt.put, PSt.sg, slK_fz, slK_ow, st_fz, st_ow, st_br, fzT_fz, fzT_ow, fzT_br, rdT_fz, rdT_ow, rdT_br, retT_fz, retT_ow, retT_br, stS_fz, stS_ow, stS_br, svT_fz, svT_ow, svT_br, blT_bl, opK_some, intK_i, tupK_t, lstK_l, wLc, wFor, wipeP, List.map_cons, List.map_nil, List.set_cons_zero, List.set_cons_succ, List.getElem?_cons_zero, List.getElem?_cons_succ, sqD, ltD, iteTP, iteFP]
    have em : ws.map (fun x => grD1 [x]) = (ws.map fun x => [x]).map grD1 := by rw [List.map_map]; rfl
    rw [em]
    refine hN _ (unS ws es m (ws.map fun x => [x])) ⟨rfl, (by repeat (first | exact FrzL.refl _ | exact FrzS.refl _ | exact FrzS.non | exact FrzS.fzo | refine FrzL.cons ?_ ?_))⟩ ?_
    clear hN N
    refine seq_k fun N hN => ?_
    dsimp only [unS, wNext, wSet, wRet, wRetN, wIf, wDrop, wVar, wC, wNil, wCons, wTup, wLst, wOp, wTst, wChain, wAnd, wOr, wNot, wAndV, wOrV, wNotV, wIfE, wUn, wTru, wCB, wCall, wSl, woN, woS, wRevT, wRevL, wYes, wItE, wItEn, wIt1, wIt2, wAsg, wgN, wgNil, wgCons, wgT, evs, wPar, wMu, wDput, wLput, PSt.puts, fzA, rdA, SV.tv, PSt.put, PSt.sg, slK_fz, slK_ow, st_fz, st_ow, st_br, fzT_fz, fzT_ow, fzT_br, rdT_fz, rdT_ow, rdT_br, retT_fz, retT_ow, retT_br, stS_fz, stS_ow, stS_br, svT_fz, svT_ow, svT_br, blT_bl, opK_some, intK_i, tupK_t, lstK_l, wLc, wFor, wipeP, List.map_cons, List.map_nil, List.set_cons_zero, List.set_cons_succ, List.getElem?_cons_zero, List.getElem?_cons_succ, sqD, ltD, iteTP, iteFP]
    refine le_for edgD2 (fun t ρ => ∃ gs, ρ = unS ws es m gs ∧ GI ws es t gs ∧ gs.length ≤ 40 ∧ (∀ g ∈ gs, g.Nodup) ∧ ∀ j, j < t → ringAt ws es j = false) ⟨_, Frz.refl _, _, rfl, GI.start nw, by rw [List.length_map]; exact l40, fun g hg => by
      obtain ⟨x, _, rfl⟩ := List.mem_map.mp hg
      simp, fun j hj => absurd hj (Nat.not_lt_zero _)⟩ ?_ ?_
    · rintro t e ρ N2 et ⟨gs, rfl, gi, gl, gn, hj⟩ hN2
      have ht : t < es.length := (List.getElem?_eq_some_iff.mp et).1
      have eg : es.getD t ("", "") = e := by rw [List.getD_eq_getElem?_getD, et]; rfl
      obtain ⟨m1, m2⟩ := hen e (List.mem_of_getElem? et)
      dsimp only [unS, wNext, wSet, wRet, wRetN, wIf, wDrop, wVar, wC, wNil, wCons, wTup, wLst, wOp, wTst, wChain, wAnd, wOr, wNot, wAndV, wOrV, wNotV, wIfE, wUn, wTru, wCB, wCall, wSl, woN, woS, wRevT, wRevL, wYes, wItE, wItEn, wIt1, wIt2, wAsg, wgN, wgNil, wgCons, wgT, evs, wPar, wMu, wDput, wLput, PSt.puts, fzA, rdA, SV.tv, PSt.put, PSt.sg, slK_fz, slK_ow, st_fz, st_ow, st_br, fzT_fz, fzT_ow, fzT_br, rdT_fz, rdT_ow, rdT_br, retT_fz, retT_ow, retT_br, stS_fz, stS_ow, stS_br, svT_fz, svT_ow, svT_br, blT_bl, opK_some, intK_i, tupK_t, lstK_l, wLc, wFor, wipeP, List.map_cons, List.map_nil, List.set_cons_zero, List.set_cons_succ, List.getElem?_cons_zero, List.getElem?_cons_succ, sqD, ltD, iteTP, iteFP]
      refine seq_k fun N3 hN3 => ?_
      dsimp only [wNext, wSet, wRet, wRetN, wIf, wDrop, wVar, wC, wNil, wCons, wTup, wLst, wOp, wTst, wChain, wAnd, wOr, wNot, wAndV, wOrV, wNotV, wIfE, wUn, wTru, wCB, wCall, wSl, woN, woS, wRevT, wRevL, wYes, wItE, wItEn, wIt1, wIt2, wAsg, wgN, wgNil, wgCons, wgT, evs, wPar, wMu, wDput, wLput, PSt.puts, fzA, rdA, SV.tv, PSt.put, PSt.sg, slK_fz, slK_ow, st_fz, st_ow, st_br, fzT_fz, fzT_ow, fzT_br, rdT_fz, rdT_ow, rdT_br, retT_fz, retT_ow, retT_br, stS_fz, stS_ow, stS_br, svT_fz, svT_ow, svT_br, blT_bl, opK_some, intK_i, tupK_t, lstK_l, wLc, wFor, wipeP, List.map_cons, List.map_nil, List.set_cons_zero, List.set_cons_succ, List.getElem?_cons_zero, List.getElem?_cons_succ, sqD, ltD, iteTP, iteFP]
      refine lm_filter grD1 (fun g => decide (e.1 ∈ g)) (by omega) (fun g hg yes no hy hn => ?_) ?_
      · dsimp only [lcC, wNext, wSet, wRet, wRetN, wIf, wDrop, wVar, wC, wNil, wCons, wTup, wLst, wOp, wTst, wChain, wAnd, wOr, wNot, wAndV, wOrV, wNotV, wIfE, wUn, wTru, wCB, wCall, wSl, woN, woS, wRevT, wRevL, wYes, wItE, wItEn, wIt1, wIt2, wAsg, wgN, wgNil, wgCons, wgT, evs, wPar, wMu, wDput, wLput, PSt.puts, fzA, rdA, SV.tv, PSt.put, PSt.sg, slK_fz, slK_ow, st_fz, st_ow, st_br, fzT_fz, fzT_ow, fzT_br, rdT_fz, rdT_ow, rdT_br, retT_fz, retT_ow, retT_br, stS_fz, stS_ow, stS_br, svT_fz, svT_ow, svT_br, blT_bl, opK_some, intK_i, tupK_t, lstK_l, wLc, wFor, wipeP, List.map_cons, List.map_nil, List.set_cons_zero, List.set_cons_succ, List.getElem?_cons_zero, List.getElem?_cons_succ, sqD, ltD, iteTP, iteFP]
        refine ⟨_, .txt _ _, ?_⟩
        cases c : decide (e.1 ∈ g)
        · exact ⟨(by first | rfl | trivial), hn c⟩
        · exact ⟨(by first | rfl | trivial), hy c⟩
      obtain ⟨f, r1, e1, hf, xf⟩ := pick0 (gi.all_ _ m1)
      rw [e1]
      dsimp only [wNext, wSet, wRet, wRetN, wIf, wDrop, wVar, wC, wNil, wCons, wTup, wLst, wOp, wTst, wChain, wAnd, wOr, wNot, wAndV, wOrV, wNotV, wIfE, wUn, wTru, wCB, wCall, wSl, woN, woS, wRevT, wRevL, wYes, wItE, wItEn, wIt1, wIt2, wAsg, wgN, wgNil, wgCons, wgT, evs, wPar, wMu, wDput, wLput, PSt.puts, fzA, rdA, SV.tv, PSt.put, PSt.sg, slK_fz, slK_ow, st_fz, st_ow, st_br, fzT_fz, fzT_ow, fzT_br, rdT_fz, rdT_ow, rdT_br, retT_fz, retT_ow, retT_br, stS_fz, stS_ow, stS_br, svT_fz, svT_ow, svT_br, blT_bl, opK_some, intK_i, tupK_t, lstK_l, wLc, wFor, wipeP, List.map_cons, List.map_nil, List.set_cons_zero, List.set_cons_succ, List.getElem?_cons_zero, List.getElem?_cons_succ, sqD, ltD, iteTP, iteFP]
      refine ⟨grD1 f, atI_nat (j := 0) rfl, ?_⟩
      refine hN3 _ _ (Frz.refl _) ?_
      clear hN3 N3
      refine seq_k fun N3 hN3 => ?_
      dsimp only [wNext, wSet, wRet, wRetN, wIf, wDrop, wVar, wC, wNil, wCons, wTup, wLst, wOp, wTst, wChain, wAnd, wOr, wNot, wAndV, wOrV, wNotV, wIfE, wUn, wTru, wCB, wCall, wSl, woN, woS, wRevT, wRevL, wYes, wItE, wItEn, wIt1, wIt2, wAsg, wgN, wgNil, wgCons, wgT, evs, wPar, wMu, wDput, wLput, PSt.puts, fzA, rdA, SV.tv, PSt.put, PSt.sg, slK_fz, slK_ow, st_fz, st_ow, st_br, fzT_fz, fzT_ow, fzT_br, rdT_fz, rdT_ow, rdT_br, retT_fz, retT_ow, retT_br, stS_fz, stS_ow, stS_br, svT_fz, svT_ow, svT_br, blT_bl, opK_some, intK_i, tupK_t, lstK_l, wLc, wFor, wipeP, List.map_cons, List.map_nil, List.set_cons_zero, List.set_cons_succ, List.getElem?_cons_zero, List.getElem?_cons_succ, sqD, ltD, iteTP, iteFP]
      refine ⟨_, .txt _ _, ?_⟩
      have im := (gi.mem f hf _ xf).2 _ m2
      have rdef : ringAt ws es t = decide (lab ws es t (ixS ws e.1) = lab ws es t (ixS ws e.2)) := by
        rw [← eg]
        rfl
      cases c1 : decide (e.2 ∈ f)
      case true =>
        have rb : ringAt ws es t = true := by
          rw [rdef]
          exact decide_eq_true (im.mp (of_decide_eq_true c1)).symm
        have : joinV ws es = .tup [.str "ring", .int (t : Nat)] := by unfold joinV joinD; rw [find_hit ht hj rb]
        rw [this] at q
        exact q
      have rb : ringAt ws es t = false := by
        rw [rdef]
        exact decide_eq_false fun z => (of_decide_eq_false c1) (im.mpr z.symm)
      refine hN3 _ _ (Frz.refl _) ?_
      clear hN3 N3
      refine seq_k fun N3 hN3 => ?_
      dsimp only [wNext, wSet, wRet, wRetN, wIf, wDrop, wVar, wC, wNil, wCons, wTup, wLst, wOp, wTst, wChain, wAnd, wOr, wNot, wAndV, wOrV, wNotV, wIfE, wUn, wTru, wCB, wCall, wSl, woN, woS, wRevT, wRevL, wYes, wItE, wItEn, wIt1, wIt2, wAsg, wgN, wgNil, wgCons, wgT, evs, wPar, wMu, wDput, wLput, PSt.puts, fzA, rdA, SV.tv, PSt.put, PSt.sg, slK_fz, slK_ow, st_fz, st_ow, st_br, fzT_fz, fzT_ow, fzT_br, rdT_fz, rdT_ow, rdT_br, retT_fz, retT_ow, retT_br, stS_fz, stS_ow, stS_br, svT_fz, svT_ow, svT_br, blT_bl, opK_some, intK_i, tupK_t, lstK_l, wLc, wFor, wipeP, List.map_cons, List.map_nil, List.set_cons_zero, List.set_cons_succ, List.getElem?_cons_zero, List.getElem?_cons_succ, sqD, ltD, iteTP, iteFP]
      refine lm_filter grD1 (fun g => decide (e.2 ∈ g)) (by omega) (fun g hg yes no hy hn => ?_) ?_
      · dsimp only [lcC, wNext, wSet, wRet, wRetN, wIf, wDrop, wVar, wC, wNil, wCons, wTup, wLst, wOp, wTst, wChain, wAnd, wOr, wNot, wAndV, wOrV, wNotV, wIfE, wUn, wTru, wCB, wCall, wSl, woN, woS, wRevT, wRevL, wYes, wItE, wItEn, wIt1, wIt2, wAsg, wgN, wgNil, wgCons, wgT, evs, wPar, wMu, wDput, wLput, PSt.puts, fzA, rdA, SV.tv, PSt.put, PSt.sg, slK_fz, slK_ow, st_fz, st_ow, st_br, fzT_fz, fzT_ow, fzT_br, rdT_fz, rdT_ow, rdT_br, retT_fz, retT_ow, retT_br, stS_fz, stS_ow, stS_br, svT_fz, svT_ow, svT_br, blT_bl, opK_some, intK_i, tupK_t, lstK_l, wLc, wFor, wipeP, List.map_cons, List.map_nil, List.set_cons_zero, List.set_cons_succ, List.getElem?_cons_zero, List.getElem?_cons_succ, sqD, ltD, iteTP, iteFP]
        refine ⟨_, .txt _ _, ?_⟩
        cases c : decide (e.2 ∈ g)
        · exact ⟨(by first | rfl | trivial), hn c⟩
        · exact ⟨(by first | rfl | trivial), hy c⟩
      obtain ⟨s0, r2, e2, hs, xs⟩ := pick0 (gi.all_ _ m2)
      rw [e2]
      dsimp only [wNext, wSet, wRet, wRetN, wIf, wDrop, wVar, wC, wNil, wCons, wTup, wLst, wOp, wTst, wChain, wAnd, wOr, wNot, wAndV, wOrV, wNotV, wIfE, wUn, wTru, wCB, wCall, wSl, woN, woS, wRevT, wRevL, wYes, wItE, wItEn, wIt1, wIt2, wAsg, wgN, wgNil, wgCons, wgT, evs, wPar, wMu, wDput, wLput, PSt.puts, fzA, rdA, SV.tv, PSt.put, PSt.sg, slK_fz, slK_ow, st_fz, st_ow, st_br, fzT_fz, fzT_ow, fzT_br, rdT_fz, rdT_ow, rdT_br, retT_fz, retT_ow, retT_br, stS_fz, stS_ow, stS_br, svT_fz, svT_ow, svT_br, blT_bl, opK_some, intK_i, tupK_t, lstK_l, wLc, wFor, wipeP, List.map_cons, List.map_nil, List.set_cons_zero, List.set_cons_succ, List.getElem?_cons_zero, List.getElem?_cons_succ, sqD, ltD, iteTP, iteFP]
      refine ⟨grD1 s0, atI_nat (j := 0) rfl, ?_⟩
      refine hN3 _ _ (Frz.refl _) ?_
      clear hN3 N3
      dsimp only [wNext, wSet, wRet, wRetN, wIf, wDrop, wVar, wC, wNil, wCons, wTup, wLst, wOp, wTst, wChain, wAnd, wOr, wNot, wAndV, wOrV, wNotV, wIfE, wUn, wTru, wCB, wCall, wSl, woN, woS, wRevT, wRevL, wYes, wItE, wItEn, wIt1, wIt2, wAsg, wgN, wgNil, wgCons, wgT, evs, wPar, wMu, wDput, wLput, PSt.puts, fzA, rdA, SV.tv, PSt.put, PSt.sg, slK_fz, slK_ow, st_fz, st_ow, st_br, fzT_fz, fzT_ow, fzT_br, rdT_fz, rdT_ow, rdT_br, retT_fz, retT_ow, retT_br, stS_fz, stS_ow, stS_br, svT_fz, svT_ow, svT_br, blT_bl, opK_some, intK_i, tupK_t, lstK_l, wLc, wFor, wipeP, List.map_cons, List.map_nil, List.set_cons_zero, List.set_cons_succ, List.getElem?_cons_zero, List.getElem?_cons_succ, sqD, ltD, iteTP, iteFP]
      have pl : ∀ g ∈ gs, Plain (grD1 g) := fun g hg => gr_plain fun x hx => hnm x (gi.mem g hg x hx).1
      have g40 : ∀ g ∈ gs, g.length ≤ 40 := fun g hg => Nat.le_trans (nodup_le (gn g hg) fun x hx => (gi.mem g hg x hx).1) l40
      refine lm_filter grD1 (fun g => !decide (g = f) && !decide (g = s0)) (by omega) (fun g hg yes no hy hn => ?_) ?_
      · dsimp only [lcC, wNext, wSet, wRet, wRetN, wIf, wDrop, wVar, wC, wNil, wCons, wTup, wLst, wOp, wTst, wChain, wAnd, wOr, wNot, wAndV, wOrV, wNotV, wIfE, wUn, wTru, wCB, wCall, wSl, woN, woS, wRevT, wRevL, wYes, wItE, wItEn, wIt1, wIt2, wAsg, wgN, wgNil, wgCons, wgT, evs, wPar, wMu, wDput, wLput, PSt.puts, fzA, rdA, SV.tv, PSt.put, PSt.sg, slK_fz, slK_ow, st_fz, st_ow, st_br, fzT_fz, fzT_ow, fzT_br, rdT_fz, rdT_ow, rdT_br, retT_fz, retT_ow, retT_br, stS_fz, stS_ow, stS_br, svT_fz, svT_ow, svT_br, blT_bl, opK_some, intK_i, tupK_t, lstK_l, wLc, wFor, wipeP, List.map_cons, List.map_nil, List.set_cons_zero, List.set_cons_succ, List.getElem?_cons_zero, List.getElem?_cons_succ, sqD, ltD, iteTP, iteFP]
        refine ⟨pl g hg, pl f hf, ?_⟩
        rw [eqv_gr]
        cases c2 : decide (g = f)
        case true => exact ⟨(by first | rfl | trivial), hn (by rw [c2]; rfl)⟩
        refine ⟨pl g hg, pl s0 hs, ?_⟩
        rw [eqv_gr]
        cases c3 : decide (g = s0)
        case true => exact ⟨(by first | rfl | trivial), hn (by rw [c2, c3]; rfl)⟩
        exact ⟨(by first | rfl | trivial), hy (by rw [c2, c3]; rfl)⟩
      dsimp only [wNext, wSet, wRet, wRetN, wIf, wDrop, wVar, wC, wNil, wCons, wTup, wLst, wOp, wTst, wChain, wAnd, wOr, wNot, wAndV, wOrV, wNotV, wIfE, wUn, wTru, wCB, wCall, wSl, woN, woS, wRevT, wRevL, wYes, wItE, wItEn, wIt1, wIt2, wAsg, wgN, wgNil, wgCons, wgT, evs, wPar, wMu, wDput, wLput, PSt.puts, fzA, rdA, SV.tv, PSt.put, PSt.sg, slK_fz, slK_ow, st_fz, st_ow, st_br, fzT_fz, fzT_ow, fzT_br, rdT_fz, rdT_ow, rdT_br, retT_fz, retT_ow, retT_br, stS_fz, stS_ow, stS_br, svT_fz, svT_ow, svT_br, blT_bl, opK_some, intK_i, tupK_t, lstK_l, wLc, wFor, wipeP, List.map_cons, List.map_nil, List.set_cons_zero, List.set_cons_succ, List.getElem?_cons_zero, List.getElem?_cons_succ, sqD, ltD, iteTP, iteFP]
      have l1 := g40 f hf
      have l2 := g40 s0 hs
      have l3 := List.length_filter_le (fun g => !decide (g = f) && !decide (g = s0)) gs
      refine ⟨by rw [List.length_map, List.length_map]; omega, ?_⟩
      dsimp only [wNext, wSet, wRet, wRetN, wIf, wDrop, wVar, wC, wNil, wCons, wTup, wLst, wOp, wTst, wChain, wAnd, wOr, wNot, wAndV, wOrV, wNotV, wIfE, wUn, wTru, wCB, wCall, wSl, woN, woS, wRevT, wRevL, wYes, wItE, wItEn, wIt1, wIt2, wAsg, wgN, wgNil, wgCons, wgT, evs, wPar, wMu, wDput, wLput, PSt.puts, fzA, rdA, SV.tv, PSt.put, PSt.sg, slK_fz, slK_ow, st_fz, st_ow, st_br, fzT_fz, fzT_ow, fzT_br, rdT_fz, rdT_ow, rdT_br, retT_fz, retT_ow, retT_br, stS_fz, stS_ow, stS_br, svT_fz, svT_ow, svT_br, blT_bl, opK_some, intK_i, tupK_t, lstK_l, wLc, wFor, wipeP, List.map_cons, List.map_nil, List.set_cons_zero, List.set_cons_succ, List.getElem?_cons_zero, List.getElem?_cons_succ, sqD, ltD, iteTP, iteFP]
      refine ⟨by rw [List.length_map]; show _ + 1 ≤ _; omega, ?_⟩
      have en : (gs.filter fun g => !decide (g = f) && !decide (g = s0)).map grD1 ++ [.lst (f.map D.str ++ s0.map D.str)] = ((gs.filter fun g => !decide (g = f) && !decide (g = s0)) ++ [f ++ s0]).map grD1 := by
        rw [List.map_append]
        show _ = _ ++ [D.lst ((f ++ s0).map D.str)]
        rw [List.map_append]
      rw [en]
      refine hN2 _ (unS ws es m ((gs.filter fun g => !decide (g = f) && !decide (g = s0)) ++ [f ++ s0])) ⟨rfl, (by repeat (first | exact FrzL.refl _ | exact FrzS.refl _ | exact FrzS.non | exact FrzS.fzo | refine FrzL.cons ?_ ?_))⟩ ⟨_, rfl, ?_, ?_, ?_, ?_⟩
      · exact gi.step hf hs (by rw [eg]; exact m1) (by rw [eg]; exact m2) (by rw [eg]; exact xf) (by rw [eg]; exact xs) rb
      · have l4 : (gs.filter fun g => !decide (g = f) && !decide (g = s0)).length < gs.length := by
          refine Nat.lt_of_le_of_ne l3 fun z => ?_
          have := List.length_filter_eq_length_iff.mp z f hf
          simp at this
        rw [List.length_append]
        show _ + 1 ≤ _
        omega
      · intro g hg
        rcases List.mem_append.mp hg with hg | hg
        · exact gn g (List.mem_filter.mp hg).1
        · rw [List.mem_singleton.mp hg]
          refine List.nodup_append.mpr ⟨gn f hf, gn s0 hs, fun x hx y hy z => ?_⟩
          subst z
          have z := gi.one f hf s0 hs x hx hy
          subst z
          exact of_decide_eq_false c1 xs
      · intro j hj2
        by_cases c : j = t
        · rw [c]; exact rb
        · exact hj j (by omega)
    · rintro ρ ⟨gs, rfl, gi, gl, gn, hj⟩
      refine hN _ _ (Frz.refl _) ?_
      clear hN N
      refine seq_k fun N hN => ?_
      dsimp only [unS, wNext, wSet, wRet, wRetN, wIf, wDrop, wVar, wC, wNil, wCons, wTup, wLst, wOp, wTst, wChain, wAnd, wOr, wNot, wAndV, wOrV, wNotV, wIfE, wUn, wTru, wCB, wCall, wSl, woN, woS, wRevT, wRevL, wYes, wItE, wItEn, wIt1, wIt2, wAsg, wgN, wgNil, wgCons, wgT, evs, wPar, wMu, wDput, wLput, PSt.puts, fzA, rdA, SV.tv, PSt.put, PSt.sg, slK_fz, slK_ow, st_fz, st_ow, st_br, fzT_fz, fzT_ow, fzT_br, rdT_fz, rdT_ow, rdT_br, retT_fz, retT_ow, retT_br, stS_fz, stS_ow, stS_br, svT_fz, svT_ow, svT_br, blT_bl, opK_some, intK_i, tupK_t, lstK_l, wLc, wFor, wipeP, List.map_cons, List.map_nil, List.set_cons_zero, List.set_cons_succ, List.getElem?_cons_zero, List.getElem?_cons_succ, sqD, ltD, iteTP, iteFP]
      refine lm_filter grD1 (fun g => decide (ws.getD 0 "" ∈ g)) (by omega) (fun g hg yes no hy hn => ?_) ?_
      · dsimp only [lcC, wNext, wSet, wRet, wRetN, wIf, wDrop, wVar, wC, wNil, wCons, wTup, wLst, wOp, wTst, wChain, wAnd, wOr, wNot, wAndV, wOrV, wNotV, wIfE, wUn, wTru, wCB, wCall, wSl, woN, woS, wRevT, wRevL, wYes, wItE, wItEn, wIt1, wIt2, wAsg, wgN, wgNil, wgCons, wgT, evs, wPar, wMu, wDput, wLput, PSt.puts, fzA, rdA, SV.tv, PSt.put, PSt.sg, slK_fz, slK_ow, st_fz, st_ow, st_br, fzT_fz, fzT_ow, fzT_br, rdT_fz, rdT_ow, rdT_br, retT_fz, retT_ow, retT_br, stS_fz, stS_ow, stS_br, svT_fz, svT_ow, svT_br, blT_bl, opK_some, intK_i, tupK_t, lstK_l, wLc, wFor, wipeP, List.map_cons, List.map_nil, List.set_cons_zero, List.set_cons_succ, List.getElem?_cons_zero, List.getElem?_cons_succ, sqD, ltD, iteTP, iteFP]
        refine ⟨.str (ws.getD 0 ""), atI_nat (j := 0) (by rw [List.getElem?_map, List.getElem?_eq_getElem (by omega), List.getD_eq_getElem?_getD, List.getElem?_eq_getElem (by omega)]; rfl), ?_⟩
        refine ⟨_, .txt _ _, ?_⟩
        cases c : decide (ws.getD 0 "" ∈ g)
        · exact ⟨(by first | rfl | trivial), hn c⟩
        · exact ⟨(by first | rfl | trivial), hy c⟩
      have w0 : ws.getD 0 "" ∈ ws := getD_in (by omega)
      obtain ⟨f, r1, e1, hf, xf⟩ := pick0 (gi.all_ _ w0)
      rw [e1]
      dsimp only [wNext, wSet, wRet, wRetN, wIf, wDrop, wVar, wC, wNil, wCons, wTup, wLst, wOp, wTst, wChain, wAnd, wOr, wNot, wAndV, wOrV, wNotV, wIfE, wUn, wTru, wCB, wCall, wSl, woN, woS, wRevT, wRevL, wYes, wItE, wItEn, wIt1, wIt2, wAsg, wgN, wgNil, wgCons, wgT, evs, wPar, wMu, wDput, wLput, PSt.puts, fzA, rdA, SV.tv, PSt.put, PSt.sg, slK_fz, slK_ow, st_fz, st_ow, st_br, fzT_fz, fzT_ow, fzT_br, rdT_fz, rdT_ow, rdT_br, retT_fz, retT_ow, retT_br, stS_fz, stS_ow, stS_br, svT_fz, svT_ow, svT_br, blT_bl, opK_some, intK_i, tupK_t, lstK_l, wLc, wFor, wipeP, List.map_cons, List.map_nil, List.set_cons_zero, List.set_cons_succ, List.getElem?_cons_zero, List.getElem?_cons_succ, sqD, ltD, iteTP, iteFP]
      refine ⟨grD1 f, atI_nat (j := 0) rfl, ?_⟩
      refine hN _ _ (Frz.refl _) ?_
      clear hN N
      refine seq_k fun N hN => ?_
      dsimp only [wNext, wSet, wRet, wRetN, wIf, wDrop, wVar, wC, wNil, wCons, wTup, wLst, wOp, wTst, wChain, wAnd, wOr, wNot, wAndV, wOrV, wNotV, wIfE, wUn, wTru, wCB, wCall, wSl, woN, woS, wRevT, wRevL, wYes, wItE, wItEn, wIt1, wIt2, wAsg, wgN, wgNil, wgCons, wgT, evs, wPar, wMu, wDput, wLput, PSt.puts, fzA, rdA, SV.tv, PSt.put, PSt.sg, slK_fz, slK_ow, st_fz, st_ow, st_br, fzT_fz, fzT_ow, fzT_br, rdT_fz, rdT_ow, rdT_br, retT_fz, retT_ow, retT_br, stS_fz, stS_ow, stS_br, svT_fz, svT_ow, svT_br, blT_bl, opK_some, intK_i, tupK_t, lstK_l, wLc, wFor, wipeP, List.map_cons, List.map_nil, List.set_cons_zero, List.set_cons_succ, List.getElem?_cons_zero, List.getElem?_cons_succ, sqD, ltD, iteTP, iteFP]
      refine le_fm .str (fun i x => if decide (x ∈ f) = true then none else some (.int (i : Nat))) (by omega) (fun i x ex yes no hy hn => ?_) ?_
      · dsimp only [lcC, wNext, wSet, wRet, wRetN, wIf, wDrop, wVar, wC, wNil, wCons, wTup, wLst, wOp, wTst, wChain, wAnd, wOr, wNot, wAndV, wOrV, wNotV, wIfE, wUn, wTru, wCB, wCall, wSl, woN, woS, wRevT, wRevL, wYes, wItE, wItEn, wIt1, wIt2, wAsg, wgN, wgNil, wgCons, wgT, evs, wPar, wMu, wDput, wLput, PSt.puts, fzA, rdA, SV.tv, PSt.put, PSt.sg, slK_fz, slK_ow, st_fz, st_ow, st_br, fzT_fz, fzT_ow, fzT_br, rdT_fz, rdT_ow, rdT_br, retT_fz, retT_ow, retT_br, stS_fz, stS_ow, stS_br, svT_fz, svT_ow, svT_br, blT_bl, opK_some, intK_i, tupK_t, lstK_l, wLc, wFor, wipeP, List.map_cons, List.map_nil, List.set_cons_zero, List.set_cons_succ, List.getElem?_cons_zero, List.getElem?_cons_succ, sqD, ltD, iteTP, iteFP]
        refine ⟨_, .txt _ _, ?_⟩
        cases c : decide (x ∈ f)
        · exact ⟨(by first | rfl | trivial), hy _ (by rw [if_neg (by rw [c]; decide)])⟩
        · exact ⟨(by first | rfl | trivial), hn (by rw [if_pos c])⟩
      have im := (gi.mem f hf _ xf).2
      have aw : ((List.range ws.length).filterMap fun i => ws[i]?.bind fun x => if decide (x ∈ f) = true then none else some (D.int (i : Nat))) = ((List.range ws.length).filter fun k => decide (lab ws es es.length k ≠ lab ws es es.length 0)).map fun i => D.int (i : Nat) := by
        refine fm_pick fun i hi => ?_
        have hi := List.mem_range.mp hi
        have e : ws[i]? = some (ws.getD i "") := by rw [List.getD_eq_getElem?_getD, List.getElem?_eq_getElem hi]; rfl
        have mi := im _ (getD_in (l := ws) (d := "") hi)
        rw [ixS_at nw hi, ixS_at nw (by omega)] at mi
        rw [e]
        show (if decide (ws.getD i "" ∈ f) = true then none else some (D.int (i : Nat))) = _
        by_cases c : ws.getD i "" ∈ f
        · have z : decide (lab ws es es.length i ≠ lab ws es es.length 0) = false := decide_eq_false fun z => z (mi.mp c)
          rw [decide_eq_true c, if_pos rfl, z]
          rfl
        · have z : decide (lab ws es es.length i ≠ lab ws es es.length 0) = true := decide_eq_true fun z => c (mi.mpr z)
          rw [decide_eq_false c, if_neg (by decide), z]
          rfl
      rw [aw]
      clear aw
      have jv : joinV ws es = match (List.range ws.length).find? (fun k => decide (lab ws es es.length k ≠ lab ws es es.length 0)) with
          | some k => .tup [.str "apart", .int (k : Nat)]
          | none => .non := by
        unfold joinV joinD
        rw [find_no hj]
        dsimp only
        cases (List.range ws.length).find? (fun k => decide (lab ws es es.length k ≠ lab ws es es.length 0)) <;> rfl
      rw [← List.head?_filter] at jv
      rw [jv] at q
      clear jv im
      generalize (List.range ws.length).filter (fun k => decide (lab ws es es.length k ≠ lab ws es es.length 0)) = L at q ⊢
      dsimp only [wNext, wSet, wRet, wRetN, wIf, wDrop, wVar, wC, wNil, wCons, wTup, wLst, wOp, wTst, wChain, wAnd, wOr, wNot, wAndV, wOrV, wNotV, wIfE, wUn, wTru, wCB, wCall, wSl, woN, woS, wRevT, wRevL, wYes, wItE, wItEn, wIt1, wIt2, wAsg, wgN, wgNil, wgCons, wgT, evs, wPar, wMu, wDput, wLput, PSt.puts, fzA, rdA, SV.tv, PSt.put, PSt.sg, slK_fz, slK_ow, st_fz, st_ow, st_br, fzT_fz, fzT_ow, fzT_br, rdT_fz, rdT_ow, rdT_br, retT_fz, retT_ow, retT_br, stS_fz, stS_ow, stS_br, svT_fz, svT_ow, svT_br, blT_bl, opK_some, intK_i, tupK_t, lstK_l, wLc, wFor, wipeP, List.map_cons, List.map_nil, List.set_cons_zero, List.set_cons_succ, List.getElem?_cons_zero, List.getElem?_cons_succ, sqD, ltD, iteTP, iteFP]
      refine hN _ _ (Frz.refl _) ?_
      clear hN N
      dsimp only [wNext, wSet, wRet, wRetN, wIf, wDrop, wVar, wC, wNil, wCons, wTup, wLst, wOp, wTst, wChain, wAnd, wOr, wNot, wAndV, wOrV, wNotV, wIfE, wUn, wTru, wCB, wCall, wSl, woN, woS, wRevT, wRevL, wYes, wItE, wItEn, wIt1, wIt2, wAsg, wgN, wgNil, wgCons, wgT, evs, wPar, wMu, wDput, wLput, PSt.puts, fzA, rdA, SV.tv, PSt.put, PSt.sg, slK_fz, slK_ow, st_fz, st_ow, st_br, fzT_fz, fzT_ow, fzT_br, rdT_fz, rdT_ow, rdT_br, retT_fz, retT_ow, retT_br, stS_fz, stS_ow, stS_br, svT_fz, svT_ow, svT_br, blT_bl, opK_some, intK_i, tupK_t, lstK_l, wLc, wFor, wipeP, List.map_cons, List.map_nil, List.set_cons_zero, List.set_cons_succ, List.getElem?_cons_zero, List.getElem?_cons_succ, sqD, ltD, iteTP, iteFP]
      refine ⟨⟨plnL_iff.mpr fun d hd => ?_, ?_⟩, ⟨rfl, by decide⟩, ?_⟩
      · obtain ⟨i, _, rfl⟩ := List.mem_map.mp hd
        rfl
      · show dpL (L.map fun i => D.int (i : Nat)) + 1 ≤ 60
        have := dpL_of (l := L.map fun i => D.int (i : Nat)) (n := 0) fun d hd => by
          obtain ⟨x, hx, rfl⟩ := List.mem_map.mp hd
          exact Nat.le_refl _
        omega
      cases L with
      | nil => exact q
      | cons i L => exact ⟨.int (i : Nat), atI_nat (j := 0) rfl, q⟩
end
end Tg

namespace Tg
open PySem PySem.Spec PyProof.Rows L2 Ow Pu
abbrev lDue : Stmt := top 35
/-! ### the library's data as plain data -/
mutual
def dP : PyData → D
  | .none => .non
  | .bool b => .bl b
  | .int i => .int i
  | .str x => .str x
  | .tuple ds => .tup (dPL ds)
  | .list _ => .non
  | .dict _ => .non
def dPL : List PyData → List D
  | [] => []
  | d :: ds => dP d :: dPL ds
end
mutual
/-- no lists, no dicts -/
def vdOk : PyData → Bool
  | .tuple ds => vdOkL ds
  | .list _ => false
  | .dict _ => false
  | _ => true
def vdOkL : List PyData → Bool
  | [] => true
  | d :: ds => vdOk d && vdOkL ds
end
mutual
theorem vd_rp {H : Hp} : ∀ {d : PyData} {v : V}, Vd H d v → Rp H (dP d) v ∧ vdOk d = true
  | .none, v, h => by unfold Vd at h; subst h; exact ⟨rp_non, rfl⟩
  | .bool b, v, h => by unfold Vd at h; subst h; exact ⟨rp_bl, rfl⟩
  | .int i, v, h => by unfold Vd at h; subst h; exact ⟨rp_int, rfl⟩
  | .str x, v, h => by unfold Vd at h; subst h; exact ⟨rp_str, rfl⟩
  | .tuple ds, v, h => by
    unfold Vd at h
    obtain ⟨a, xs, e, ea, hs⟩ := h
    obtain ⟨h1, h2⟩ := vdL_rp hs
    refine ⟨?_, by simpa [vdOk] using h2⟩
    show Rp H (.tup (dPL ds)) v
    unfold Rp
    exact ⟨a, xs, e, ea, h1⟩
  | .list _, v, h => by unfold Vd at h; exact h.elim
  | .dict _, v, h => by unfold Vd at h; exact h.elim
theorem vdL_rp {H : Hp} : ∀ {ds : List PyData} {xs : List V}, VdA H ds xs → RpL H (dPL ds) xs ∧ vdOkL ds = true
  | [], xs, h => by unfold VdA at h; subst h; exact ⟨RpL.nil, rfl⟩
  | d :: ds, xs, h => by
    unfold VdA at h
    obtain ⟨x, r, e, h1, h2⟩ := h
    subst e
    obtain ⟨a1, a2⟩ := vd_rp h1
    obtain ⟨b1, b2⟩ := vdL_rp h2
    exact ⟨RpL.cons a1 b1, by simp [vdOkL, a2, b2]⟩
end
mutual
theorem rp_vd {F H : Hp} (s : Sub F H) : ∀ {d : PyData} {v : V}, Rp F (dP d) v → vdOk d = true → Vd H d v
  | .none, v, h, _ => by unfold dP Rp at h; unfold Vd; exact h
  | .bool b, v, h, _ => by unfold dP Rp at h; unfold Vd; exact h
  | .int i, v, h, _ => by unfold dP Rp at h; unfold Vd; exact h
  | .str x, v, h, _ => by unfold dP Rp at h; unfold Vd; exact h
  | .tuple ds, v, h, o => by
    have h : Rp F (.tup (dPL ds)) v := h
    unfold Rp at h
    obtain ⟨a, xs, e, ea, hs⟩ := h
    unfold Vd
    exact ⟨a, xs, e, s.tup ea, rpL_vd s hs (by simpa [vdOk] using o)⟩
  | .list _, v, h, o => by simp [vdOk] at o
  | .dict _, v, h, o => by simp [vdOk] at o
theorem rpL_vd {F H : Hp} (s : Sub F H) : ∀ {ds : List PyData} {xs : List V}, RpL F (dPL ds) xs → vdOkL ds = true → VdA H ds xs
  | [], xs, h, _ => by unfold VdA; exact h.isNil
  | d :: ds, xs, h, o => by
    obtain ⟨x, r, e, h1, h2⟩ := RpL.uncons (d := dP d) (l := dPL ds) h
    subst e
    have o : vdOk d = true ∧ vdOkL ds = true := by simpa [vdOkL] using o
    unfold VdA
    exact ⟨x, r, rfl, rp_vd s h1 o.1, rpL_vd s h2 o.2⟩
end
theorem dPL_map (l : List PyData) : dPL l = l.map dP := by
  induction l with
  | nil => rfl
  | cons d l ih => show dP d :: dPL l = _; rw [ih]; rfl
theorem dP_strs (ws : List Str) : dP (.tuple (ws.map PyData.str)) = strT ws := by
  show D.tup (dPL _) = _
  rw [dPL_map, List.map_map]
  rfl
theorem dP_edgs (es : List Edg) : dP (.tuple (es.map edgD)) = edgT es := by
  show D.tup (dPL _) = _
  rw [dPL_map, List.map_map]
  rfl
/-- an older promise of what changes nothing -/
theorem calP_of {P : Program} {w : World} {K : PySem.W.Frag} {mg : Str → Option Value} {base : Heap} {k : Nat} {x : Str} {ps : List Str} {sp : QSp} {sp' : Sp} (c : Cal P w K mg base k x ps sp') (i : ∀ vs H Q E, lsp R0 (up Unit sp) vs H Q E → sp' vs H Q E) : CalP P w K mg base R0 k x ps (up Unit sp) := by
  obtain ⟨f, fd, F, h⟩ := c.ex
  exact ⟨f, fd, (FnOkG.of F).up.imp i, h⟩
/-- the answer is a frozen value, all stands -/
theorem fz_end {H : Hp} {Q : VK} {F : Hp} {m : Unit} {ds : List D} {vs : List V} {Qp : SV → Unit → Prop} (a : ArgsOk R0 F H m ds vs) (hQ : ∀ r m' v F' H', Qp r m' → Xt R0 F H m F' H' m' → RvX R0 H m m' r v F' H' → Q v H') {d : D} {v : V} {H' : Hp}
    (q : Qp (.fz d) ()) (s : Same H H') (r : Rp F d v) : Q v H' := by
  refine hQ (.fz d) () v F H' q ⟨fun b o e => (a.sub b o e).elim (fun z => .inl (s _ _ z)) fun ⟨n, ob, z⟩ => .inr ⟨n, ob, s _ _ z⟩, trivial, fun _ h => h.elim, Same.refl _, fun b o e => .inl e, fun b o _ e => s _ _ e, fun _ h => h.elim⟩ r
abbrev duS (ws : List Str) (es : List Edg) (m : Unit) : PSt Unit := ⟨[some (.fz (strT ws)), some (.fz (edgT es)), none, none, none, none], m⟩
theorem cut_to {l : List D} {t : Nat} (h : t ≤ l.length) : Pu.cutD l none (some (t : Int)) = l.take t := by
  unfold Pu.cutD
  rw [HT.sIx_none, HT.sIx_nat, Nat.min_eq_left h, List.drop_zero, Nat.sub_zero]
theorem edg_plain {e : Edg} (h1 : isNmS e.1 = true) (h2 : isNmS e.2 = true) : Plain (edgD2 e) := by
  refine ⟨?_, ?_⟩
  · show (PyData.strOk e.1 && (PyData.strOk e.2 && true)) = true
    rw [nm_strOk h1, nm_strOk h2]
    rfl
  · show max 0 (max 0 0) + 1 ≤ 60
    decide
theorem edgs_plain {es : List Edg} (h : ∀ e ∈ es, Plain (edgD2 e)) : Plain (.tup (es.map edgD2)) := by
  refine ⟨?_, ?_⟩
  · show plnL (es.map edgD2) = true
    rw [plnL_iff]
    intro d hd
    obtain ⟨x, hx, rfl⟩ := List.mem_map.mp hd
    exact (h x hx).p
  · show dpL (es.map edgD2) + 1 ≤ 60
    have := dpL_of (l := es.map edgD2) (n := 1) fun d hd => by
      obtain ⟨x, hx, rfl⟩ := List.mem_map.mp hd
      exact Nat.le_refl _
    omega
theorem eqv_edg (x e : Edg) : PyData.eqv (pdT (edgD2 x)) (pdT (edgD2 e)) = decide (x = e) := by
  obtain ⟨a, b⟩ := x
  obtain ⟨c, d⟩ := e
  show ((a == c) && ((b == d) && true)) = _
  by_cases h1 : a = c <;> by_cases h2 : b = d <;> simp [h1, h2]
theorem any_edg {es : List Edg} {e : Edg} : ((es.map edgD2).any fun z => PyData.eqv (pdT z) (pdT (edgD2 e))) = decide (e ∈ es) := by
  induction es with
  | nil => rfl
  | cons x es ih =>
    rw [List.map_cons, List.any_cons, ih, eqv_edg]
    by_cases c : x = e
    · subst c; simp
    · have c2 : ¬ e = x := fun z => c z.symm
      simp [c, c2]
theorem mate_has {es : List Edg} {e : Edg} : (mateOf es e.1).contains e.2 = (decide (e ∈ es) || decide ((e.2, e.1) ∈ es)) := by
  induction es with
  | nil => rfl
  | cons x es ih =>
    have e0 : mateOf (x :: es) e.1 = mateOf [x] e.1 ++ mateOf es e.1 := mateOf_app [x] es e.1
    obtain ⟨a, b⟩ := x
    obtain ⟨c, d⟩ := e
    rw [List.contains_eq_mem] at ih
    rw [e0, mate_one, List.contains_eq_mem]
    rw [Bool.eq_iff_iff]
    have ih := Bool.eq_iff_iff.mp ih
    simp only [decide_eq_true_eq, Bool.or_eq_true, List.mem_append, List.mem_cons, Prod.mk.injEq] at ih ⊢
    rw [ih]
    by_cases h1 : a = c <;> by_cases h2 : b = c <;> by_cases h3 : a = d <;> by_cases h4 : b = d <;> simp_all <;> grind
section
variable {P : Program} {w : World} {K : PySem.W.Frag} {mg : Str → Option Value} {base : Heap}
def qForm : QSp := fun ds Q _ => ∃ W R, ds = [dP W, dP R] ∧ vdOk W = true ∧ vdOk R = true ∧ Lim W ∧ Lim R ∧ Q (.fz (.bl (formT W R)))
theorem c_form (c : Cal P w K mg base 2 "_law_has_form" ["_law_places", "_law_edges"] spLForm) : CalP P w K mg base R0 2 "_law_has_form" ["_law_places", "_law_edges"] (up Unit qForm) := by
  refine calP_of c fun vs H Q E h => ?_
  obtain ⟨F, m, ds, Qp, Ep, a, ⟨W, R, rfl, oW, oR, lW, lR, q⟩, hQ, _⟩ := h
  obtain ⟨wv, vs, rfl, r1, r⟩ := a.rp.uncons
  obtain ⟨rv, vs, rfl, r2, r⟩ := r.uncons
  have := r.isNil
  subst this
  exact ⟨W, R, wv, rv, rfl, rp_vd a.sub r1 oW, rp_vd a.sub r2 oR, lW, lR, fun H' s => fz_end a hQ q s rp_bl⟩
def qName : QSp := fun ds Q _ => ∃ x : Str, ds = [.str x] ∧ 10 * x.length + 10 ≤ 4000000 ∧ Q (.fz (.bl (isNmS x)))
theorem c_name (c : Cal P w K mg base 1 "_law_is_name" ["_law_value"] spLName) : CalP P w K mg base R0 1 "_law_is_name" ["_law_value"] (up Unit qName) := by
  refine calP_of c fun vs H Q E h => ?_
  obtain ⟨F, m, ds, Qp, Ep, a, ⟨x, rfl, lx, q⟩, hQ, _⟩ := h
  obtain ⟨wv, vs, rfl, r1, r⟩ := a.rp.uncons
  have := r.isNil
  unfold Rp at r1
  subst this r1
  exact ⟨x, rfl, lx, fun H' s => fz_end a hQ q s rp_bl⟩
def dueV (W R : PyData) : D := match dueT W R with
  | none => .non
  | some (wd, i) => .tup [.str wd, .int i]
def qDue : QSp := fun ds Q _ => ∃ W R, ds = [dP W, dP R] ∧ vdOk W = true ∧ vdOk R = true ∧ Lim W ∧ Lim R ∧ Q (.fz (dueV W R))
abbrev duN : List Str := ["_law_places", "_law_edges", "_law_at", "_law_place", "_law_edge", "_law_end"]
theorem scDue : FnScope duN ["_law_places", "_law_edges"] (defScope lDue) := ⟨rfl, rfl, rfl, by decide +kernel, rfl, by decide +kernel, by decide +kernel⟩
theorem ok_Due {f : Addr} {fd : FuncData} (F : Fun K "_law_due" "_law_due" lDue f fd) (T : TxtP mg) (c__law_has_form : CalP P w K mg base R0 2 "_law_has_form" ["_law_places", "_law_edges"] (up Unit qForm)) (c__law_is_name : CalP P w K mg base R0 1 "_law_is_name" ["_law_value"] (up Unit qName))
    (c__law_unlinked : CalP P w K mg base R0 1 "_law_unlinked" ["_law_places", "_law_edges"] (up Unit pUnl)) : FnOkG P w K mg base (L2.CX P w) 3 f fd ["_law_places", "_law_edges"] (lsp R0 (up Unit qDue)) := by
  refine pfn F scDue (fun ds m Q E h => ?_) (fun X E ds m Q Ep eR nl eX hg hr xc h => ?_)
  · obtain ⟨ws, es, rfl, _⟩ := h
    rfl
  · obtain ⟨cdv, A, outer, s, H, W0, rfl⟩ := eX
    obtain ⟨W, R, rfl, oW, oR, lW, lR, q⟩ := h
    have nd := scDue.nd
    have hu64 := u64 hr
    have hu65 := u65 hr
    have hE : E.R = R0 := eR
    rw [← hE] at c__law_has_form c__law_is_name c__law_unlinked
    refine ⟨_, ((qs_cons (qs_if (qt_not (qt_tru (q_call c__law_has_form xc hg (hr.mono (by decide)) (by rfl) (qa_cons (qv 0) (qa_cons (qv 1) qa_nil)))))
        (qs_one (qs_ret (q_tup (qa_cons q_str (qa_cons q_int qa_nil)))))
        qs_nil)
      (qs_cons (qs_if (qt_not (qt_chain os_lt os_lt q_int (q_callB cs_len (by rfl) T.b_len PySem.boot_len (qa_cons (qv 0) qa_nil)) q_int))
        (qs_one (qs_ret (q_tup (qa_cons q_str (qa_cons q_int qa_nil)))))
        qs_nil)
      (qs_cons (qs_for (passes_of rfl) rfl (qi_enum (by rfl) T.b_enumerate (qv 0)) (pg_tup (by rfl) (pgs_cons (pg_name (i := 2) nd rfl (.inl rfl)) (pgs_cons (pg_name (i := 3) nd rfl (.inl rfl)) pgs_nil))) (vs := [2, 3]) (gs_tup (gss_cons gs_name (gss_cons gs_name gss_nil)))
        (qs_one (qs_if (qt_w (qw_or (qt_not (qt_tru (q_call c__law_is_name xc hg (hr.mono (by decide)) (by rfl) (qa_cons (qv 3) qa_nil)))) (qw_or1 (qt_cmp (os_in hu65) (qv 3) (q_slice (qv 0) qo_none (qo_some (qv 2))) rfl))))
            (qs_one (qs_ret (q_tup (qa_cons q_str (qa_cons (qv 2) qa_nil)))))
            qs_nil)))
      (qs_cons (qs_for (passes_of rfl) rfl (qi_enum (by rfl) T.b_enumerate (qv 1)) (pg_tup (by rfl) (pgs_cons (pg_name (i := 2) nd rfl (.inl rfl)) (pgs_cons (pg_name (i := 4) nd rfl (.inl rfl)) pgs_nil))) (vs := [2, 4]) (gs_tup (gss_cons gs_name (gss_cons gs_name gss_nil)))
        (qs_cons (qs_if (qt_w (qw_or (qt_not (qt_tru (q_callB (cs_all rfl) (by rfl) T.b_all (by decide +kernel) (qa_cons (q_lc (own := [("_law_end", 5)]) (vs := [5]) (g := (gName 5)) rfl nd (qi_any (qv 4)) (blkOk_by (own := [("_law_end", 5)]) (N := duN) (sc := defScope lDue) (by decide +kernel)) (fun _ _ _ _ _ => (pg_name (i := 5) nd rfl (.inl rfl))) gs_name (fun _ _ _ _ _ => qts_nil) (fun _ _ _ _ _ => (q_cmp (os_in hu65) (qv 5) (qv 0) rfl))) qa_nil)))) (qw_or1 (qt_cmp (os_eq hu64) (q_ix (qv 4) q_int (fun _ _ => rfl)) (q_ix (qv 4) q_int (fun _ _ => rfl)) (nomark _)))))
            (qs_one (qs_ret (q_tup (qa_cons q_str (qa_cons (qv 2) qa_nil)))))
            qs_nil)
          (qs_one (qs_if (qt_w (qw_or (qt_cmp (os_in hu65) (qv 4) (q_slice (qv 1) qo_none (qo_some (qv 2))) rfl) (qw_or1 (qt_cmp (os_in hu65) (q_revT (qv 4)) (q_slice (qv 1) qo_none (qo_some (qv 2))) rfl))))
            (qs_one (qs_ret (q_tup (qa_cons q_str (qa_cons (qv 2) qa_nil)))))
            qs_nil))))
      (qs_one (qs_ret (q_call c__law_unlinked xc hg (hr.mono (by decide)) (by rfl) (qa_cons (qv 0) (qa_cons (qv 1) qa_nil)))))))))), ?_⟩
    have e0 : startP duN.length [dP W, dP R] m = ⟨[some (.fz (dP W)), some (.fz (dP R)), none, none, none, none], m⟩ := rfl
    rw [e0]
    clear e0
    refine seq_k fun N hN => ?_
    dsimp only [wNext, wSet, wRet, wRetN, wIf, wDrop, wVar, wC, wNil, wCons, wTup, wLst, wOp, wTst, wChain, wAnd, wOr, wNot, wAndV, wOrV, wNotV, wIfE, wUn, wTru, wCB, wCall, wSl, woN, woS, wRevT, wRevL, wYes, wItE, wItEn, wIt1, wIt2, wAsg, wgN, wgNil, wgCons, wgT, evs, wPar, wMu, wDput, wLput, PSt.puts, fzA, rdA, SV.tv, PSt.put, PSt.sg, slK_fz, slK_ow, st_fz, st_ow, st_br, fzT_fz, fzT_ow, fzT_br, rdT_fz, rdT_ow, rdT_br, retT_fz, retT_ow, retT_br, stS_fz, stS_ow, stS_br, svT_fz, svT_ow, svT_br, blT_bl, opK_some, intK_i, tupK_t, lstK_l, wLc, wFor, wipeP, List.map_cons, List.map_nil, List.set_cons_zero, List.set_cons_succ, List.getElem?_cons_zero, List.getElem?_cons_succ, sqD, ltD, iteTP, iteFP, iteNT, iteNF]
    refine ⟨W, R, rfl, oW, oR, lW, lR, ?_⟩
    dsimp only [wNext, wSet, wRet, wRetN, wIf, wDrop, wVar, wC, wNil, wCons, wTup, wLst, wOp, wTst, wChain, wAnd, wOr, wNot, wAndV, wOrV, wNotV, wIfE, wUn, wTru, wCB, wCall, wSl, woN, woS, wRevT, wRevL, wYes, wItE, wItEn, wIt1, wIt2, wAsg, wgN, wgNil, wgCons, wgT, evs, wPar, wMu, wDput, wLput, PSt.puts, fzA, rdA, SV.tv, PSt.put, PSt.sg, slK_fz, slK_ow, st_fz, st_ow, st_br, fzT_fz, fzT_ow, fzT_br, rdT_fz, rdT_ow, rdT_br, retT_fz, retT_ow, retT_br, stS_fz, stS_ow, stS_br, svT_fz, svT_ow, svT_br, blT_bl, opK_some, intK_i, tupK_t, lstK_l, wLc, wFor, wipeP, List.map_cons, List.map_nil, List.set_cons_zero, List.set_cons_succ, List.getElem?_cons_zero, List.getElem?_cons_succ, sqD, ltD, iteTP, iteFP, iteNT, iteNF, truD]
    cases c1 : formT W R
    · have : dueV W R = .tup [.str "form", .int 0] := by unfold dueV dueT; rw [c1]; rfl
      rw [this] at q
      exact q
    refine hN _ _ (Frz.refl _) ?_
    clear hN N
    have f1 : isTupS W = true := by
      unfold formT at c1
      exact (Bool.and_eq_true_iff.mp c1).1
    have f2 : edgesD R = true := by
      unfold formT at c1
      exact (Bool.and_eq_true_iff.mp c1).2
    have eW := strs_back f1
    have eR := edgs_back f2
    have iW : itemsD W = (strsOf W).map PyData.str := congrArg itemsD eW
    have dW : dP W = strT (strsOf W) := (congrArg dP eW).trans (dP_strs _)
    have dR : dP R = edgT (edgsOf R) := (congrArg dP eR).trans (dP_edgs _)
    have lR2 : (edgsOf R).length ≤ 2000000 := by
      have := items_len lR
      show ((itemsD R).map edgOf).length ≤ _
      rw [List.length_map]
      exact this
    have wl : ∀ x ∈ strsOf W, 10 * x.length + 10 ≤ 4000000 := fun x hx => by
      have : PyData.str x ∈ itemsD W := by rw [iW]; exact List.mem_map.mpr ⟨x, hx, rfl⟩
      rw [eW] at lW
      have := lW.item (d := .str x) (List.mem_map.mpr ⟨x, hx, rfl⟩)
      exact this
    have dv : dueV W R = match dueT W R with
      | none => .non
      | some (wd, i) => .tup [.str wd, .int i] := rfl
    unfold dueT at dv
    rw [c1, if_pos rfl] at dv
    have sz : sizeT W = (decide (1 ≤ (strsOf W).length) && decide ((strsOf W).length ≤ 40)) := by unfold sizeT; rw [iW, List.length_map]
    rw [sz] at dv
    clear sz
    rw [dW, dR]
    clear oW oR lW lR eW eR iW f1 f2 c1
    generalize strsOf W = ws at *
    generalize edgsOf R = es at *
    generalize dueV W R = dv0 at *
    clear dW dR
    refine seq_k fun N hN => ?_
    dsimp only [wNext, wSet, wRet, wRetN, wIf, wDrop, wVar, wC, wNil, wCons, wTup, wLst, wOp, wTst, wChain, wAnd, wOr, wNot, wAndV, wOrV, wNotV, wIfE, wUn, wTru, wCB, wCall, wSl, woN, woS, wRevT, wRevL, wYes, wItE, wItEn, wIt1, wIt2, wAsg, wgN, wgNil, wgCons, wgT, evs, wPar, wMu, wDput, wLput, PSt.puts, fzA, rdA, SV.tv, PSt.put, PSt.sg, slK_fz, slK_ow, st_fz, st_ow, st_br, fzT_fz, fzT_ow, fzT_br, rdT_fz, rdT_ow, rdT_br, retT_fz, retT_ow, retT_br, stS_fz, stS_ow, stS_br, svT_fz, svT_ow, svT_br, blT_bl, opK_some, intK_i, tupK_t, lstK_l, wLc, wFor, wipeP, List.map_cons, List.map_nil, List.set_cons_zero, List.set_cons_succ, List.getElem?_cons_zero, List.getElem?_cons_succ, sqD, ltD, iteTP, iteFP, iteNT, iteNF, gLen, gSl, gLt, gLe, gGt, gGe, gB0, gI0, gI, gInt, gBool, gList, gTuple, gAbs, truD, Bool.not_false, Bool.not_true]
    have bad : ∀ wd i, (none : Option Nat) = none → dv0 = .tup [.str wd, .int i] → Q (.fz (.tup [.str wd, .int i])) m := fun wd i _ e => e ▸ q
    by_cases c1 : (0 : Int) < ((ws.map D.str).length : Nat)
    case neg =>
      rw [decide_eq_false c1]
      rw [List.length_map] at c1
      rw [decide_eq_false (show ¬ 1 ≤ ws.length by omega)] at dv
      exact bad _ _ rfl dv
    rw [decide_eq_true c1]
    try dsimp only [wNext, wSet, wRet, wRetN, wIf, wDrop, wVar, wC, wNil, wCons, wTup, wLst, wOp, wTst, wChain, wAnd, wOr, wNot, wAndV, wOrV, wNotV, wIfE, wUn, wTru, wCB, wCall, wSl, woN, woS, wRevT, wRevL, wYes, wItE, wItEn, wIt1, wIt2, wAsg, wgN, wgNil, wgCons, wgT, evs, wPar, wMu, wDput, wLput, PSt.puts, fzA, rdA, SV.tv, PSt.put, PSt.sg, slK_fz, slK_ow, st_fz, st_ow, st_br, fzT_fz, fzT_ow, fzT_br, rdT_fz, rdT_ow, rdT_br, retT_fz, retT_ow, retT_br, stS_fz, stS_ow, stS_br, svT_fz, svT_ow, svT_br, blT_bl, opK_some, intK_i, tupK_t, lstK_l, wLc, wFor, wipeP, List.map_cons, List.map_nil, List.set_cons_zero, List.set_cons_succ, List.getElem?_cons_zero, List.getElem?_cons_succ, sqD, ltD, iteTP, iteFP, iteNT, iteNF]
    by_cases c2 : (((ws.map D.str).length : Nat) : Int) < 41
    case neg =>
      rw [decide_eq_false c2]
      rw [List.length_map] at c2
      rw [decide_eq_false (show ¬ ws.length ≤ 40 by omega), Bool.and_false] at dv
      exact bad _ _ rfl dv
    rw [decide_eq_true c2]
    rw [List.length_map] at c1 c2
    have l1 : 1 ≤ ws.length := by omega
    have l40 : ws.length ≤ 40 := by omega
    rw [decide_eq_true l1, decide_eq_true l40] at dv
    clear c1 c2
    refine hN _ _ (Frz.refl _) ?_
    clear hN N
    refine seq_k fun N hN => ?_
    try dsimp only [wNext, wSet, wRet, wRetN, wIf, wDrop, wVar, wC, wNil, wCons, wTup, wLst, wOp, wTst, wChain, wAnd, wOr, wNot, wAndV, wOrV, wNotV, wIfE, wUn, wTru, wCB, wCall, wSl, woN, woS, wRevT, wRevL, wYes, wItE, wItEn, wIt1, wIt2, wAsg, wgN, wgNil, wgCons, wgT, evs, wPar, wMu, wDput, wLput, PSt.puts, fzA, rdA, SV.tv, PSt.put, PSt.sg, slK_fz, slK_ow, st_fz, st_ow, st_br, fzT_fz, fzT_ow, fzT_br, rdT_fz, rdT_ow, rdT_br, retT_fz, retT_ow, retT_br, stS_fz, stS_ow, stS_br, svT_fz, svT_ow, svT_br, blT_bl, opK_some, intK_i, tupK_t, lstK_l, wLc, wFor, wipeP, List.map_cons, List.map_nil, List.set_cons_zero, List.set_cons_succ, List.getElem?_cons_zero, List.getElem?_cons_succ, sqD, ltD, iteTP, iteFP, iteNT, iteNF]
    refine le_for .str (fun t ρ => ρ = duS ws es m ∧ ∀ j, j < t → wBad ws j = false) ⟨_, Frz.refl _, rfl, fun j hj => absurd hj (Nat.not_lt_zero _)⟩ ?_ ?_
    · rintro t x ρ N2 et ⟨rfl, hj⟩ hN2
      have ht : t < ws.length := (List.getElem?_eq_some_iff.mp et).1
      have eg : ws.getD t "" = x := by rw [List.getD_eq_getElem?_getD, et]; rfl
      have mx := List.mem_of_getElem? et
      have wb : wBad ws t = ((ws.take t).contains x || !isNmS x) := by unfold wBad; rw [eg]
      have hit : wBad ws t = true → Q (.fz (.tup [.str "place", .int (t : Nat)])) m := fun c => by
        have : badW ws = some t := find_hit ht hj c
        rw [this] at dv
        exact bad _ _ rfl dv
      dsimp only [duS, wNext, wSet, wRet, wRetN, wIf, wDrop, wVar, wC, wNil, wCons, wTup, wLst, wOp, wTst, wChain, wAnd, wOr, wNot, wAndV, wOrV, wNotV, wIfE, wUn, wTru, wCB, wCall, wSl, woN, woS, wRevT, wRevL, wYes, wItE, wItEn, wIt1, wIt2, wAsg, wgN, wgNil, wgCons, wgT, evs, wPar, wMu, wDput, wLput, PSt.puts, fzA, rdA, SV.tv, PSt.put, PSt.sg, slK_fz, slK_ow, st_fz, st_ow, st_br, fzT_fz, fzT_ow, fzT_br, rdT_fz, rdT_ow, rdT_br, retT_fz, retT_ow, retT_br, stS_fz, stS_ow, stS_br, svT_fz, svT_ow, svT_br, blT_bl, opK_some, intK_i, tupK_t, lstK_l, wLc, wFor, wipeP, List.map_cons, List.map_nil, List.set_cons_zero, List.set_cons_succ, List.getElem?_cons_zero, List.getElem?_cons_succ, sqD, ltD, iteTP, iteFP, iteNT, iteNF]
      refine ⟨x, rfl, wl x mx, ?_⟩
      dsimp only [wNext, wSet, wRet, wRetN, wIf, wDrop, wVar, wC, wNil, wCons, wTup, wLst, wOp, wTst, wChain, wAnd, wOr, wNot, wAndV, wOrV, wNotV, wIfE, wUn, wTru, wCB, wCall, wSl, woN, woS, wRevT, wRevL, wYes, wItE, wItEn, wIt1, wIt2, wAsg, wgN, wgNil, wgCons, wgT, evs, wPar, wMu, wDput, wLput, PSt.puts, fzA, rdA, SV.tv, PSt.put, PSt.sg, slK_fz, slK_ow, st_fz, st_ow, st_br, fzT_fz, fzT_ow, fzT_br, rdT_fz, rdT_ow, rdT_br, retT_fz, retT_ow, retT_br, stS_fz, stS_ow, stS_br, svT_fz, svT_ow, svT_br, blT_bl, opK_some, intK_i, tupK_t, lstK_l, wLc, wFor, wipeP, List.map_cons, List.map_nil, List.set_cons_zero, List.set_cons_succ, List.getElem?_cons_zero, List.getElem?_cons_succ, sqD, ltD, iteTP, iteFP, iteNT, iteNF, truD]
      cases c1 : isNmS x
      · exact hit (by rw [wb, c1, Bool.not_false, Bool.or_true])
      try dsimp only [wNext, wSet, wRet, wRetN, wIf, wDrop, wVar, wC, wNil, wCons, wTup, wLst, wOp, wTst, wChain, wAnd, wOr, wNot, wAndV, wOrV, wNotV, wIfE, wUn, wTru, wCB, wCall, wSl, woN, woS, wRevT, wRevL, wYes, wItE, wItEn, wIt1, wIt2, wAsg, wgN, wgNil, wgCons, wgT, evs, wPar, wMu, wDput, wLput, PSt.puts, fzA, rdA, SV.tv, PSt.put, PSt.sg, slK_fz, slK_ow, st_fz, st_ow, st_br, fzT_fz, fzT_ow, fzT_br, rdT_fz, rdT_ow, rdT_br, retT_fz, retT_ow, retT_br, stS_fz, stS_ow, stS_br, svT_fz, svT_ow, svT_br, blT_bl, opK_some, intK_i, tupK_t, lstK_l, wLc, wFor, wipeP, List.map_cons, List.map_nil, List.set_cons_zero, List.set_cons_succ, List.getElem?_cons_zero, List.getElem?_cons_succ, sqD, ltD, iteTP, iteFP, iteNT, iteNF, gLen, gSl, gLt, gLe, gGt, gGe, gB0, gI0, gI, gInt, gBool, gList, gTuple, gAbs, truD, Bool.not_false, Bool.not_true]
      rw [cut_to (by rw [List.length_map]; omega), ← List.map_take]
      refine ⟨_, .txtT _ _, ?_⟩
      try dsimp only [wNext, wSet, wRet, wRetN, wIf, wDrop, wVar, wC, wNil, wCons, wTup, wLst, wOp, wTst, wChain, wAnd, wOr, wNot, wAndV, wOrV, wNotV, wIfE, wUn, wTru, wCB, wCall, wSl, woN, woS, wRevT, wRevL, wYes, wItE, wItEn, wIt1, wIt2, wAsg, wgN, wgNil, wgCons, wgT, evs, wPar, wMu, wDput, wLput, PSt.puts, fzA, rdA, SV.tv, PSt.put, PSt.sg, slK_fz, slK_ow, st_fz, st_ow, st_br, fzT_fz, fzT_ow, fzT_br, rdT_fz, rdT_ow, rdT_br, retT_fz, retT_ow, retT_br, stS_fz, stS_ow, stS_br, svT_fz, svT_ow, svT_br, blT_bl, opK_some, intK_i, tupK_t, lstK_l, wLc, wFor, wipeP, List.map_cons, List.map_nil, List.set_cons_zero, List.set_cons_succ, List.getElem?_cons_zero, List.getElem?_cons_succ, sqD, ltD, iteTP, iteFP, iteNT, iteNF]
      cases c2 : decide (x ∈ ws.take t)
      case true => exact hit (by rw [wb, List.contains_iff_mem.mpr (of_decide_eq_true c2)]; rfl)
      refine hN2 _ (duS ws es m) ⟨rfl, (by repeat (first | exact FrzL.refl _ | exact FrzS.refl _ | exact FrzS.non | exact FrzS.fzo | refine FrzL.cons ?_ ?_))⟩ ⟨rfl, fun j hj2 => ?_⟩
      by_cases c : j = t
      · rw [c, wb, c1]
        have : (ws.take t).contains x = false := by
          cases z : (ws.take t).contains x
          · rfl
          · exact absurd (List.contains_iff_mem.mp z) (of_decide_eq_false c2)
        rw [this]
        rfl
      · exact hj j (by omega)
    rintro ρ ⟨rfl, hj⟩
    have bw : badW ws = none := find_no hj
    rw [bw] at dv
    obtain ⟨nw, hnm⟩ := badW_no bw
    refine hN _ _ (Frz.refl _) ?_
    clear hN N hj bw wl
    refine seq_k fun N hN => ?_
    dsimp only [duS, wNext, wSet, wRet, wRetN, wIf, wDrop, wVar, wC, wNil, wCons, wTup, wLst, wOp, wTst, wChain, wAnd, wOr, wNot, wAndV, wOrV, wNotV, wIfE, wUn, wTru, wCB, wCall, wSl, woN, woS, wRevT, wRevL, wYes, wItE, wItEn, wIt1, wIt2, wAsg, wgN, wgNil, wgCons, wgT, evs, wPar, wMu, wDput, wLput, PSt.puts, fzA, rdA, SV.tv, PSt.put, PSt.sg, slK_fz, slK_ow, st_fz, st_ow, st_br, fzT_fz, fzT_ow, fzT_br, rdT_fz, rdT_ow, rdT_br, retT_fz, retT_ow, retT_br, stS_fz, stS_ow, stS_br, svT_fz, svT_ow, svT_br, blT_bl, opK_some, intK_i, tupK_t, lstK_l, wLc, wFor, wipeP, List.map_cons, List.map_nil, List.set_cons_zero, List.set_cons_succ, List.getElem?_cons_zero, List.getElem?_cons_succ, sqD, ltD, iteTP, iteFP, iteNT, iteNF]
    refine le_for edgD2 (fun t ρ => ρ = duS ws es m ∧ ∀ j, j < t → eBad ws es j = false) ⟨_, Frz.refl _, rfl, fun j hj => absurd hj (Nat.not_lt_zero _)⟩ ?_ ?_
    · rintro t e ρ N2 et ⟨rfl, hj⟩ hN2
      have ht : t < es.length := (List.getElem?_eq_some_iff.mp et).1
      have eg : es.getD t ("", "") = e := by rw [List.getD_eq_getElem?_getD, et]; rfl
      have eb : eBad ws es t = ((!ws.contains e.1 || !ws.contains e.2) || (decide (e.1 = e.2) || (mateOf (es.take t) e.1).contains e.2)) := by unfold eBad; rw [eg]
      have hit : eBad ws es t = true → Q (.fz (.tup [.str "edge", .int (t : Nat)])) m := fun c => by
        have : badE ws es = some t := find_hit ht hj c
        rw [this] at dv
        exact bad _ _ rfl dv
      try dsimp only [duS, wNext, wSet, wRet, wRetN, wIf, wDrop, wVar, wC, wNil, wCons, wTup, wLst, wOp, wTst, wChain, wAnd, wOr, wNot, wAndV, wOrV, wNotV, wIfE, wUn, wTru, wCB, wCall, wSl, woN, woS, wRevT, wRevL, wYes, wItE, wItEn, wIt1, wIt2, wAsg, wgN, wgNil, wgCons, wgT, evs, wPar, wMu, wDput, wLput, PSt.puts, fzA, rdA, SV.tv, PSt.put, PSt.sg, slK_fz, slK_ow, st_fz, st_ow, st_br, fzT_fz, fzT_ow, fzT_br, rdT_fz, rdT_ow, rdT_br, retT_fz, retT_ow, retT_br, stS_fz, stS_ow, stS_br, svT_fz, svT_ow, svT_br, blT_bl, opK_some, intK_i, tupK_t, lstK_l, wLc, wFor, wipeP, List.map_cons, List.map_nil, List.set_cons_zero, List.set_cons_succ, List.getElem?_cons_zero, List.getElem?_cons_succ, sqD, ltD, iteTP, iteFP, iteNT, iteNF]
      refine seq_k fun N3 hN3 => ?_
      try dsimp only [wNext, wSet, wRet, wRetN, wIf, wDrop, wVar, wC, wNil, wCons, wTup, wLst, wOp, wTst, wChain, wAnd, wOr, wNot, wAndV, wOrV, wNotV, wIfE, wUn, wTru, wCB, wCall, wSl, woN, woS, wRevT, wRevL, wYes, wItE, wItEn, wIt1, wIt2, wAsg, wgN, wgNil, wgCons, wgT, evs, wPar, wMu, wDput, wLput, PSt.puts, fzA, rdA, SV.tv, PSt.put, PSt.sg, slK_fz, slK_ow, st_fz, st_ow, st_br, fzT_fz, fzT_ow, fzT_br, rdT_fz, rdT_ow, rdT_br, retT_fz, retT_ow, retT_br, stS_fz, stS_ow, stS_br, svT_fz, svT_ow, svT_br, blT_bl, opK_some, intK_i, tupK_t, lstK_l, wLc, wFor, wipeP, List.map_cons, List.map_nil, List.set_cons_zero, List.set_cons_succ, List.getElem?_cons_zero, List.getElem?_cons_succ, sqD, ltD, iteTP, iteFP, iteNT, iteNF]
      refine lm_map (l := [e.1, e.2]) .str (fun x => .bl (decide (x ∈ ws))) (Nat.le_of_lt (show 2 < 100000 by decide)) (fun x hx yes no hy => ?_) ?_
      · dsimp only [lcC, wNext, wSet, wRet, wRetN, wIf, wDrop, wVar, wC, wNil, wCons, wTup, wLst, wOp, wTst, wChain, wAnd, wOr, wNot, wAndV, wOrV, wNotV, wIfE, wUn, wTru, wCB, wCall, wSl, woN, woS, wRevT, wRevL, wYes, wItE, wItEn, wIt1, wIt2, wAsg, wgN, wgNil, wgCons, wgT, evs, wPar, wMu, wDput, wLput, PSt.puts, fzA, rdA, SV.tv, PSt.put, PSt.sg, slK_fz, slK_ow, st_fz, st_ow, st_br, fzT_fz, fzT_ow, fzT_br, rdT_fz, rdT_ow, rdT_br, retT_fz, retT_ow, retT_br, stS_fz, stS_ow, stS_br, svT_fz, svT_ow, svT_br, blT_bl, opK_some, intK_i, tupK_t, lstK_l, wLc, wFor, wipeP, List.map_cons, List.map_nil, List.set_cons_zero, List.set_cons_succ, List.getElem?_cons_zero, List.getElem?_cons_succ, sqD, ltD, iteTP, iteFP, iteNT, iteNF]
        refine ⟨_, .txtT _ _, ?_⟩
        exact ⟨(by first | rfl | trivial), hy⟩
      try dsimp only [wNext, wSet, wRet, wRetN, wIf, wDrop, wVar, wC, wNil, wCons, wTup, wLst, wOp, wTst, wChain, wAnd, wOr, wNot, wAndV, wOrV, wNotV, wIfE, wUn, wTru, wCB, wCall, wSl, woN, woS, wRevT, wRevL, wYes, wItE, wItEn, wIt1, wIt2, wAsg, wgN, wgNil, wgCons, wgT, evs, wPar, wMu, wDput, wLput, PSt.puts, fzA, rdA, SV.tv, PSt.put, PSt.sg, slK_fz, slK_ow, st_fz, st_ow, st_br, fzT_fz, fzT_ow, fzT_br, rdT_fz, rdT_ow, rdT_br, retT_fz, retT_ow, retT_br, stS_fz, stS_ow, stS_br, svT_fz, svT_ow, svT_br, blT_bl, opK_some, intK_i, tupK_t, lstK_l, wLc, wFor, wipeP, List.map_cons, List.map_nil, List.set_cons_zero, List.set_cons_succ, List.getElem?_cons_zero, List.getElem?_cons_succ, sqD, ltD, iteTP, iteFP, iteNT, iteNF]
      refine ⟨[decide (e.1 ∈ ws), decide (e.2 ∈ ws)], rfl, ?_⟩
      dsimp only [wNext, wSet, wRet, wRetN, wIf, wDrop, wVar, wC, wNil, wCons, wTup, wLst, wOp, wTst, wChain, wAnd, wOr, wNot, wAndV, wOrV, wNotV, wIfE, wUn, wTru, wCB, wCall, wSl, woN, woS, wRevT, wRevL, wYes, wItE, wItEn, wIt1, wIt2, wAsg, wgN, wgNil, wgCons, wgT, evs, wPar, wMu, wDput, wLput, PSt.puts, fzA, rdA, SV.tv, PSt.put, PSt.sg, slK_fz, slK_ow, st_fz, st_ow, st_br, fzT_fz, fzT_ow, fzT_br, rdT_fz, rdT_ow, rdT_br, retT_fz, retT_ow, retT_br, stS_fz, stS_ow, stS_br, svT_fz, svT_ow, svT_br, blT_bl, opK_some, intK_i, tupK_t, lstK_l, wLc, wFor, wipeP, List.map_cons, List.map_nil, List.set_cons_zero, List.set_cons_succ, List.getElem?_cons_zero, List.getElem?_cons_succ, sqD, ltD, iteTP, iteFP, iteNT, iteNF, gLen, gSl, gLt, gLe, gGt, gGe, gB0, gI0, gI, gInt, gBool, gList, gTuple, gAbs, truD, Bool.not_false, Bool.not_true]
      have pe : ∀ x ∈ es.take (t + 1), e.1 ∈ ws → e.2 ∈ ws → isNmS x.1 = true ∧ isNmS x.2 = true := fun x hx k1 k2 => by
        obtain ⟨i, hi, ei⟩ := List.mem_take_iff_getElem.mp hx
        by_cases c : i = t
        · subst c
          have : x = e := by
            rw [← ei]
            exact (List.getElem?_eq_some_iff.mp et).2
          subst this
          exact ⟨hnm _ k1, hnm _ k2⟩
        · obtain ⟨k3, k4, _⟩ := eBad_no (hj i (by omega))
          have : es.getD i ("", "") = x := by rw [List.getD_eq_getElem?_getD, List.getElem?_eq_getElem (by omega)]; exact ei
          rw [this] at k3 k4
          exact ⟨hnm _ k3, hnm _ k4⟩
      have k1 : decide (e.1 ∈ ws) = ws.contains e.1 := (List.contains_eq_mem ..).symm
      have k2 : decide (e.2 ∈ ws) = ws.contains e.2 := (List.contains_eq_mem ..).symm
      rw [k1, k2]
      cases c1 : ws.contains e.1
      case false => exact hit (by rw [eb, c1]; rfl)
      cases c2 : ws.contains e.2
      case false => exact hit (by rw [eb, c1, c2]; rfl)
      refine ⟨.str e.1, rfl, .str e.2, rfl, ?_⟩
      show (if decide (e.1 = e.2) = true then _ else _)
      cases c3 : decide (e.1 = e.2)
      case true => exact hit (by rw [eb, c1, c2, c3]; rfl)
      refine hN3 _ _ (Frz.refl _) ?_
      clear hN3 N3
      have pl1 : ∀ x ∈ es.take (t + 1), Plain (edgD2 x) := fun x hx => by
        obtain ⟨z1, z2⟩ := pe x hx (List.contains_iff_mem.mp c1) (List.contains_iff_mem.mp c2)
        exact edg_plain z1 z2
      have me : e ∈ es.take (t + 1) := List.mem_take_iff_getElem.mpr ⟨t, by omega, (List.getElem?_eq_some_iff.mp et).2⟩
      have pe1 := pl1 e me
      have pe2 : Plain (edgD2 (e.2, e.1)) := by
        obtain ⟨z1, z2⟩ := pe e me (List.contains_iff_mem.mp c1) (List.contains_iff_mem.mp c2)
        exact edg_plain (e := (e.2, e.1)) z2 z1
      have pe3 : Plain (.tup ((es.take t).map edgD2)) := edgs_plain fun x hx => pl1 x (List.mem_of_mem_take (by rw [List.take_take]; rw [Nat.min_eq_left (Nat.le_succ t)]; exact hx))
      try dsimp only [wNext, wSet, wRet, wRetN, wIf, wDrop, wVar, wC, wNil, wCons, wTup, wLst, wOp, wTst, wChain, wAnd, wOr, wNot, wAndV, wOrV, wNotV, wIfE, wUn, wTru, wCB, wCall, wSl, woN, woS, wRevT, wRevL, wYes, wItE, wItEn, wIt1, wIt2, wAsg, wgN, wgNil, wgCons, wgT, evs, wPar, wMu, wDput, wLput, PSt.puts, fzA, rdA, SV.tv, PSt.put, PSt.sg, slK_fz, slK_ow, st_fz, st_ow, st_br, fzT_fz, fzT_ow, fzT_br, rdT_fz, rdT_ow, rdT_br, retT_fz, retT_ow, retT_br, stS_fz, stS_ow, stS_br, svT_fz, svT_ow, svT_br, blT_bl, opK_some, intK_i, tupK_t, lstK_l, wLc, wFor, wipeP, List.map_cons, List.map_nil, List.set_cons_zero, List.set_cons_succ, List.getElem?_cons_zero, List.getElem?_cons_succ, sqD, ltD, iteTP, iteFP, iteNT, iteNF, gLen, gSl, gLt, gLe, gGt, gGe, gB0, gI0, gI, gInt, gBool, gList, gTuple, gAbs, truD, Bool.not_false, Bool.not_true]
      rw [cut_to (by rw [List.length_map]; omega), ← List.map_take]
      refine ⟨_, .anyT pe1 pe3, ?_⟩
      rw [any_edg]
      cases c4 : decide (e ∈ es.take t)
      case true => exact hit (by rw [eb, mate_has, c4]; simp)
      try dsimp only [wNext, wSet, wRet, wRetN, wIf, wDrop, wVar, wC, wNil, wCons, wTup, wLst, wOp, wTst, wChain, wAnd, wOr, wNot, wAndV, wOrV, wNotV, wIfE, wUn, wTru, wCB, wCall, wSl, woN, woS, wRevT, wRevL, wYes, wItE, wItEn, wIt1, wIt2, wAsg, wgN, wgNil, wgCons, wgT, evs, wPar, wMu, wDput, wLput, PSt.puts, fzA, rdA, SV.tv, PSt.put, PSt.sg, slK_fz, slK_ow, st_fz, st_ow, st_br, fzT_fz, fzT_ow, fzT_br, rdT_fz, rdT_ow, rdT_br, retT_fz, retT_ow, retT_br, stS_fz, stS_ow, stS_br, svT_fz, svT_ow, svT_br, blT_bl, opK_some, intK_i, tupK_t, lstK_l, wLc, wFor, wipeP, List.map_cons, List.map_nil, List.set_cons_zero, List.set_cons_succ, List.getElem?_cons_zero, List.getElem?_cons_succ, sqD, ltD, iteTP, iteFP, iteNT, iteNF, gLen, gSl, gLt, gLe, gGt, gGe, gB0, gI0, gI, gInt, gBool, gList, gTuple, gAbs, truD, Bool.not_false, Bool.not_true]
      refine ⟨_, InD.anyT (a := edgD2 (e.2, e.1)) pe2 pe3, ?_⟩
      rw [any_edg]
      cases c5 : decide ((e.2, e.1) ∈ es.take t)
      case true => exact hit (by rw [eb, mate_has, c5]; simp)
      refine hN2 _ (duS ws es m) ⟨rfl, (by repeat (first | exact FrzL.refl _ | exact FrzS.refl _ | exact FrzS.non | exact FrzS.fzo | refine FrzL.cons ?_ ?_))⟩ ⟨rfl, fun j hj2 => ?_⟩
      by_cases c : j = t
      · rw [c, eb, c1, c2, c3, mate_has, c4, c5]
        rfl
      · exact hj j (by omega)
    rintro ρ ⟨rfl, hj⟩
    have be : badE ws es = none := find_no hj
    rw [be] at dv
    refine hN _ _ (Frz.refl _) ?_
    try dsimp only [wNext, wSet, wRet, wRetN, wIf, wDrop, wVar, wC, wNil, wCons, wTup, wLst, wOp, wTst, wChain, wAnd, wOr, wNot, wAndV, wOrV, wNotV, wIfE, wUn, wTru, wCB, wCall, wSl, woN, woS, wRevT, wRevL, wYes, wItE, wItEn, wIt1, wIt2, wAsg, wgN, wgNil, wgCons, wgT, evs, wPar, wMu, wDput, wLput, PSt.puts, fzA, rdA, SV.tv, PSt.put, PSt.sg, slK_fz, slK_ow, st_fz, st_ow, st_br, fzT_fz, fzT_ow, fzT_br, rdT_fz, rdT_ow, rdT_br, retT_fz, retT_ow, retT_br, stS_fz, stS_ow, stS_br, svT_fz, svT_ow, svT_br, blT_bl, opK_some, intK_i, tupK_t, lstK_l, wLc, wFor, wipeP, List.map_cons, List.map_nil, List.set_cons_zero, List.set_cons_succ, List.getElem?_cons_zero, List.getElem?_cons_succ, sqD, ltD, iteTP, iteFP, iteNT, iteNF]
    have : dv0 = joinV ws es := dv
    subst this
    exact ⟨ws, es, rfl, nw, l1, l40, lR2, hnm, ends_ok be, q⟩
/-- as the law's own def asks for it -/
theorem due_of {f : Addr} {fd : FuncData} (F : FnOkG P w K mg base (L2.CX P w) 3 f fd ["_law_places", "_law_edges"] (lsp R0 (up Unit qDue))) : FnOkG P w K mg base (L2.CX P w) 3 f fd ["_law_places", "_law_edges"] spLDue := by
  refine F.imp fun vs H Q E h => ?_
  obtain ⟨W, R, wv, rv, rfl, hw, hv, _, _, lW, lR, k0, k1⟩ := h
  obtain ⟨rW, oW⟩ := vd_rp hw
  obtain ⟨rR, oR⟩ := vd_rp hv
  refine ⟨H, (), [dP W, dP R], fun r _ => r = .fz (dueV W R), fun _ _ => False, ⟨fun a o e => .inl e, trivial, fun _ h => h.elim, RpL.cons rW (RpL.one rR)⟩, ⟨W, R, rfl, oW, oR, lW, lR, rfl⟩, ?_, fun _ _ _ _ _ _ h => h.elim⟩
  rintro r m' v F' H' rfl x rv
  have s : Same H H' := fun a o e => x.kp a o (fun z => z) e
  have rv : Rp F' (dueV W R) v := rv
  cases e : dueT W R with
  | none =>
    have : dueV W R = .non := by unfold dueV; rw [e]
    rw [this] at rv
    unfold Rp at rv
    subst rv
    exact k0 e H' s
  | some p =>
    obtain ⟨wd, i⟩ := p
    have : dueV W R = .tup [.str wd, .int i] := by unfold dueV; rw [e]
    rw [this] at rv
    unfold Rp at rv
    obtain ⟨a, vs, e1, e2, r⟩ := rv
    obtain ⟨v1, vs, e3, r1, r⟩ := r.uncons
    obtain ⟨v2, vs, e4, r2, r⟩ := r.uncons
    have := r.isNil
    unfold Rp at r1 r2
    subst e1 e3 e4 this r1 r2
    exact k1 wd i e a H' s (x.sub.tup e2)
end
end Tg

namespace Tg
open PySem PySem.Spec PyProof.Rows L2 Ow Pu
theorem all_mk {P : Program} {w : World} {K : PySem.W.Frag} {h : Heap} {mg : Str → Option Value} {fa CP CN gN E1 E2 E3 E4 C f1 p2 f2 p3 f3 f4 p5 f5 f6 f7 f8 f9 f10 f11 f12 f13 f14 f15 f16 f17 f18 f19 f20 f21 f22 f23 f24 f25 f26 f27 : Addr} {rs2 rs3 rs5 : List Value} {fd1 fd2 fd3 fd4 fd5 fd6 fd7 fd8 fd9 fd10 fd11 fd12 fd13 fd14 fd15 fd16 fd17 fd18 fd19 fd20 fd21 fd22 fd23 fd24 fd25 fd26 fd27 fdGN : FuncData} (X : K.In h) (G : h.Ns mainGlobals mg) (hfa : mg "law" = some (.ref fa))
    (aC : PySem.W.nsIn K mainGlobals "Tree" = some (some (.ref C)))
    (a1 : PySem.W.findIn K (.ref C) "__init__" = some (some (.ref f1)))
    (i1 : PySem.W.isFn K (.ref f1) = true)
    (F1 : Fun K "__init__" "Tree.__init__" pTI f1 fd1)
    (a2 : PySem.W.findIn K (.ref C) "places" = some (some (.ref p2)))
    (g2 : PySem.W.specialIn K (.ref p2) "__get__" = some (some (.builtin "property.__get__")))
    (t2 : PySem.W.takesIn K (.ref p2) = some true)
    (r2 : PySem.W.recIn K p2 "property" = some (.ref f2 :: rs2))
    (F2 : Fun K "places" "Tree.places" pWW f2 fd2)
    (a3 : PySem.W.findIn K (.ref C) "edges" = some (some (.ref p3)))
    (g3 : PySem.W.specialIn K (.ref p3) "__get__" = some (some (.builtin "property.__get__")))
    (t3 : PySem.W.takesIn K (.ref p3) = some true)
    (r3 : PySem.W.recIn K p3 "property" = some (.ref f3 :: rs3))
    (F3 : Fun K "edges" "Tree.edges" pWR f3 fd3)
    (a4 : PySem.W.findIn K (.ref C) "__len__" = some (some (.ref f4)))
    (i4 : PySem.W.isFn K (.ref f4) = true)
    (F4 : Fun K "__len__" "Tree.__len__" pWL f4 fd4)
    (a5 : PySem.W.findCls K (.ref C) (.type "type") "is_name" = some (.get (.builtin "staticmethod.__get__") (.ref p5) .none (.ref C)))
    (h5 : PySem.W.findIn K (.ref C) "is_name" = some (some (.ref p5)))
    (u5 : PySem.W.typeIn K (.ref p5) = some (.type "staticmethod"))
    (g5 : PySem.W.specialIn K (.ref p5) "__get__" = some (some (.builtin "staticmethod.__get__")))
    (t5 : PySem.W.takesIn K (.ref p5) = some false)
    (r5 : PySem.W.recIn K p5 "staticmethod" = some (.ref f5 :: rs5))
    (F5 : Fun K "is_name" "Tree.is_name" pIsName f5 fd5)
    (a6 : PySem.W.nsIn K mainGlobals "is_tuple_of_strings" = some (some (.ref f6)))
    (F6 : Fun K "is_tuple_of_strings" "is_tuple_of_strings" pTuS f6 fd6)
    (a7 : PySem.W.nsIn K mainGlobals "check_form" = some (some (.ref f7)))
    (F7 : Fun K "check_form" "check_form" pForm f7 fd7)
    (a8 : PySem.W.nsIn K mainGlobals "check_places" = some (some (.ref f8)))
    (F8 : Fun K "check_places" "check_places" pPlaces f8 fd8)
    (a9 : PySem.W.nsIn K mainGlobals "mates_by_place" = some (some (.ref f9)))
    (F9 : Fun K "mates_by_place" "mates_by_place" pMates f9 fd9)
    (a10 : PySem.W.nsIn K mainGlobals "in_place_order" = some (some (.ref f10)))
    (F10 : Fun K "in_place_order" "in_place_order" pNear f10 fd10)
    (a11 : PySem.W.nsIn K mainGlobals "check_joined" = some (some (.ref f11)))
    (F11 : Fun K "check_joined" "check_joined" pJoined f11 fd11)
    (a12 : PySem.W.findIn K (.ref CP) "__init__" = some (some (.ref f12)))
    (i12 : PySem.W.isFn K (.ref f12) = true)
    (F12 : Fun K "__init__" "Plan.__init__" pPlanI f12 fd12)
    (a13 : PySem.W.nsIn K mainGlobals "_law_box" = some (some (.ref f13)))
    (F13 : Fun K "_law_box" "_law_box" sBox f13 fd13)
    (a14 : PySem.W.nsIn K mainGlobals "_law_take" = some (some (.ref f14)))
    (F14 : Fun K "_law_take" "_law_take" sTake f14 fd14)
    (a15 : PySem.W.nsIn K mainGlobals "_law_mixed" = some (some (.ref f15)))
    (F15 : Fun K "_law_mixed" "_law_mixed" sMixed f15 fd15)
    (a16 : PySem.W.nsIn K mainGlobals "_law_names" = some (some (.ref f16)))
    (F16 : Fun K "_law_names" "_law_names" sNames f16 fd16)
    (a17 : PySem.W.nsIn K mainGlobals "_law_tree" = some (some (.ref f17)))
    (F17 : Fun K "_law_tree" "_law_tree" sTree f17 fd17)
    (a18 : PySem.W.nsIn K mainGlobals "_law_changed" = some (some (.ref f18)))
    (F18 : Fun K "_law_changed" "_law_changed" lChanged f18 fd18)
    (a19 : PySem.W.nsIn K mainGlobals "_law_size" = some (some (.ref f19)))
    (F19 : Fun K "_law_size" "_law_size" lSize f19 fd19)
    (a20 : PySem.W.nsIn K mainGlobals "_law_is_name" = some (some (.ref f20)))
    (F20 : Fun K "_law_is_name" "_law_is_name" lIsName f20 fd20)
    (a21 : PySem.W.nsIn K mainGlobals "_law_has_form" = some (some (.ref f21)))
    (F21 : Fun K "_law_has_form" "_law_has_form" lForm f21 fd21)
    (a22 : PySem.W.nsIn K mainGlobals "_law_unlinked" = some (some (.ref f22)))
    (F22 : Fun K "_law_unlinked" "_law_unlinked" lUnl f22 fd22)
    (a23 : PySem.W.nsIn K mainGlobals "_law_due" = some (some (.ref f23)))
    (F23 : Fun K "_law_due" "_law_due" lDue f23 fd23)
    (a24 : PySem.W.nsIn K mainGlobals "_law_told" = some (some (.ref f24)))
    (F24 : Fun K "_law_told" "_law_told" lTold f24 fd24)
    (a25 : PySem.W.nsIn K mainGlobals "_law_spaced" = some (some (.ref f25)))
    (F25 : Fun K "_law_spaced" "_law_spaced" lSpaced f25 fd25)
    (a26 : PySem.W.nsIn K mainGlobals "_law_bent" = some (some (.ref f26)))
    (F26 : Fun K "_law_bent" "_law_bent" lBent f26 fd26)
    (a27 : PySem.W.nsIn K mainGlobals "law" = some (some (.ref f27)))
    (F27 : Fun K "law" "law" lLaw f27 fd27)
    (GN : Fun K "__init__" "NoTree.__init__" pINoTree gN fdGN)
    (pg : PySem.W.plainGet K C Str.empty = true)
    (hd : PySem.W.hasDictIn K C = true)
    (po : PySem.W.plainOver K C = true)
    (sa : PySem.W.findIn K (.ref C) "__setattr__" = some (some (.builtin "object.__setattr__")))
    (mkC : PySem.W.makesIn K C = true)
    (keC : PySem.W.keepIn K (.ref C) = true)
    (na1 : PySem.W.findIn K (.ref C) "_places" = some none)
    (na2 : PySem.W.findIn K (.ref C) "_edges" = some none)
    (na3 : PySem.W.findIn K (.ref C) "_shape" = some none)
    (na4 : PySem.W.findIn K (.ref C) "plan" = some none)
    (pgP : PySem.W.plainGet K CP Str.empty = true)
    (hdP : PySem.W.hasDictIn K CP = true)
    (poP : PySem.W.plainOver K CP = true)
    (saP : PySem.W.findIn K (.ref CP) "__setattr__" = some (some (.builtin "object.__setattr__")))
    (mkP : PySem.W.makesIn K CP = true)
    (keP : PySem.W.keepIn K (.ref CP) = true)
    (aP : PySem.W.nsIn K mainGlobals "Plan" = some (some (.ref CP)))
    (np1 : PySem.W.findIn K (.ref CP) "near" = some none)
    (np2 : PySem.W.findIn K (.ref CP) "spots" = some none)
    (np3 : PySem.W.findIn K (.ref CP) "names" = some none)
    (np4 : PySem.W.findIn K (.ref CP) "above" = some none)
    (np5 : PySem.W.findIn K (.ref CP) "deep" = some none)
    (rdT : PySem.W.readsIn K C (.type "type") = true)
    (gaT : PySem.W.specialIn K (.ref C) "__getattribute__" = some (some (.builtin "type.__getattribute__")))
    (aLN : ∃ t, PySem.W.nsIn K mainGlobals "LONGEST_NAME" = some (some (.int 6 t)))
    (aMP : ∃ t, PySem.W.nsIn K mainGlobals "MOST_PLACES" = some (some (.int 40 t)))
    (nN : PySem.W.nsIn K mainGlobals "NoTree" = some (some (.ref CN)))
    (nO1 : PySem.W.nsIn K mainGlobals "NoGrove" = some (some (.ref E1)))
    (nO2 : PySem.W.nsIn K mainGlobals "NoMatch" = some (some (.ref E2)))
    (nO3 : PySem.W.nsIn K mainGlobals "NoText" = some (some (.ref E3)))
    (nO4 : PySem.W.nsIn K mainGlobals "NoWeb" = some (some (.ref E4)))
    (kN : PySem.W.keepIn K (.ref CN) = true)
    (LN : Hh.excB K CN = true)
    (saN : PySem.W.findIn K (.ref CN) "__setattr__" = some (some (.builtin "object.__setattr__")))
    (exN : PySem.W.subIn K (.ref CN) (.type "BaseException") = some true)
    (tyN : PySem.W.typeIn K (.ref CN) = some (.type "type"))
    (gaN : PySem.W.findIn K (.ref CN) "__getattribute__" = some (some (.builtin "BaseException.__getattribute__")))
    (ggN : PySem.W.findIn K (.ref CN) "__getattr__" = some none)
    (hdN : PySem.W.hasDictIn K CN = true)
    (hcN : PySem.W.findIn K (.ref CN) "__class__" = some (some (.builtin "object.__class__")))
    (hmN : PySem.W.mroIn K CN (.type "object") = some true)
    (fNw : PySem.W.findIn K (.ref CN) "word" = some none)
    (fNa : PySem.W.findIn K (.ref CN) "at" = some none)
    (iiN : PySem.W.findIn K (.ref CN) "__init__" = some (some (.ref gN)))
    (tiN : PySem.W.typeIn K (.ref gN) = some (.type "function"))
    (hn : PySem.W.specialIn K (.builtin "object.__class__") "__get__" = some (some (.builtin "getset_descriptor.__get__")))
    (ht : PySem.W.takesIn K (.builtin "object.__class__") = some true)
    (suN : PySem.W.subIn K (.ref CN) (.ref CN) = some true)
    (kaN : PySem.W.kitAny K (.ref CN) [.ref E1, .ref E2, .ref E3, .ref E4] = some false)
    (z_isinstance : PySem.W.nsIn K mainGlobals "isinstance" = some none)
    (z_tuple : PySem.W.nsIn K mainGlobals "tuple" = some none)
    (z_str : PySem.W.nsIn K mainGlobals "str" = some none)
    (z_int : PySem.W.nsIn K mainGlobals "int" = some none)
    (z_bool : PySem.W.nsIn K mainGlobals "bool" = some none)
    (z_len : PySem.W.nsIn K mainGlobals "len" = some none)
    (z_all : PySem.W.nsIn K mainGlobals "all" = some none)
    (z_enumerate : PySem.W.nsIn K mainGlobals "enumerate" = some none)
    (z_list : PySem.W.nsIn K mainGlobals "list" = some none)
    (z_range : PySem.W.nsIn K mainGlobals "range" = some none)
    (z_abs : PySem.W.nsIn K mainGlobals "abs" = some none)
    (z_min : PySem.W.nsIn K mainGlobals "min" = some none)
    (z_max : PySem.W.nsIn K mainGlobals "max" = some none)
    (z_set : PySem.W.nsIn K mainGlobals "set" = some none)
    (z_repr : PySem.W.nsIn K mainGlobals "repr" = some none) :
    ∃ fd : FuncData, (∀ (s : Shared) (v : Value), BindsTo s fd ⟨[v], []⟩ [("_law_script", v)]) ∧ ∀ base : Heap, K.In base → base.Ns mainGlobals mg → FnOkG P w K mg base CX0 7 fa fd ["_law_script"] (spLaw K) := by
  have e := hfa.symm.trans (PySem.W.mg_of X G a27)
  cases e
  have k1 := F1.kp
  have b1 := F1.binds (ps := ["self", "places", "edges"]) fun _ _ _ _ _ _ us hl => match us, hl with | [_, _, _], _ => rfl
  have k2 := F2.kp
  have b2 := F2.binds (ps := ["self"]) fun _ _ _ _ _ _ us hl => match us, hl with | [_], _ => rfl
  have k3 := F3.kp
  have b3 := F3.binds (ps := ["self"]) fun _ _ _ _ _ _ us hl => match us, hl with | [_], _ => rfl
  have k4 := F4.kp
  have b4 := F4.binds (ps := ["self"]) fun _ _ _ _ _ _ us hl => match us, hl with | [_], _ => rfl
  have k5 := F5.kp
  have k6 := F6.kp
  have b6 := F6.binds (ps := ["value"]) fun _ _ _ _ _ _ us hl => match us, hl with | [_], _ => rfl
  have m6 := PySem.W.mg_of X G a6
  have k7 := F7.kp
  have b7 := F7.binds (ps := ["places", "edges"]) fun _ _ _ _ _ _ us hl => match us, hl with | [_, _], _ => rfl
  have m7 := PySem.W.mg_of X G a7
  have k8 := F8.kp
  have b8 := F8.binds (ps := ["places"]) fun _ _ _ _ _ _ us hl => match us, hl with | [_], _ => rfl
  have m8 := PySem.W.mg_of X G a8
  have k9 := F9.kp
  have b9 := F9.binds (ps := ["places", "edges"]) fun _ _ _ _ _ _ us hl => match us, hl with | [_, _], _ => rfl
  have m9 := PySem.W.mg_of X G a9
  have k10 := F10.kp
  have b10 := F10.binds (ps := ["mates"]) fun _ _ _ _ _ _ us hl => match us, hl with | [_], _ => rfl
  have m10 := PySem.W.mg_of X G a10
  have k11 := F11.kp
  have b11 := F11.binds (ps := ["places", "edges"]) fun _ _ _ _ _ _ us hl => match us, hl with | [_, _], _ => rfl
  have m11 := PySem.W.mg_of X G a11
  have k12 := F12.kp
  have b12 := F12.binds (ps := ["self", "first", "near"]) fun _ _ _ _ _ _ us hl => match us, hl with | [_, _, _], _ => rfl
  have k13 := F13.kp
  have b13 := F13.binds (ps := ["_law_script", "_law_base"]) fun _ _ _ _ _ _ us hl => match us, hl with | [_, _], _ => rfl
  have m13 := PySem.W.mg_of X G a13
  have k14 := F14.kp
  have b14 := F14.binds (ps := ["_law_box_here", "_law_many"]) fun _ _ _ _ _ _ us hl => match us, hl with | [_, _], _ => rfl
  have m14 := PySem.W.mg_of X G a14
  have k15 := F15.kp
  have b15 := F15.binds (ps := ["_law_box_here", "_law_items"]) fun _ _ _ _ _ _ us hl => match us, hl with | [_, _], _ => rfl
  have m15 := PySem.W.mg_of X G a15
  have k16 := F16.kp
  have b16 := F16.binds (ps := ["_law_box_here", "_law_many"]) fun _ _ _ _ _ _ us hl => match us, hl with | [_, _], _ => rfl
  have m16 := PySem.W.mg_of X G a16
  have k17 := F17.kp
  have b17 := F17.binds (ps := ["_law_box_here", "_law_most"]) fun _ _ _ _ _ _ us hl => match us, hl with | [_, _], _ => rfl
  have m17 := PySem.W.mg_of X G a17
  have k18 := F18.kp
  have b18 := F18.binds (ps := ["_law_box_here", "_law_thing", "_law_deep", "_law_odd"]) fun _ _ _ _ _ _ us hl => match us, hl with | [_, _, _, _], _ => rfl
  have m18 := PySem.W.mg_of X G a18
  have k19 := F19.kp
  have b19 := F19.binds (ps := ["_law_box_here"]) fun _ _ _ _ _ _ us hl => match us, hl with | [_], _ => rfl
  have m19 := PySem.W.mg_of X G a19
  have k20 := F20.kp
  have b20 := F20.binds (ps := ["_law_value"]) fun _ _ _ _ _ _ us hl => match us, hl with | [_], _ => rfl
  have m20 := PySem.W.mg_of X G a20
  have k21 := F21.kp
  have b21 := F21.binds (ps := ["_law_places", "_law_edges"]) fun _ _ _ _ _ _ us hl => match us, hl with | [_, _], _ => rfl
  have m21 := PySem.W.mg_of X G a21
  have k22 := F22.kp
  have b22 := F22.binds (ps := ["_law_places", "_law_edges"]) fun _ _ _ _ _ _ us hl => match us, hl with | [_, _], _ => rfl
  have m22 := PySem.W.mg_of X G a22
  have k23 := F23.kp
  have b23 := F23.binds (ps := ["_law_places", "_law_edges"]) fun _ _ _ _ _ _ us hl => match us, hl with | [_, _], _ => rfl
  have m23 := PySem.W.mg_of X G a23
  have k24 := F24.kp
  have b24 := F24.binds (ps := ["_law_places", "_law_edges"]) fun _ _ _ _ _ _ us hl => match us, hl with | [_, _], _ => rfl
  have m24 := PySem.W.mg_of X G a24
  have k25 := F25.kp
  have b25 := F25.binds (ps := ["_law_text"]) fun _ _ _ _ _ _ us hl => match us, hl with | [_], _ => rfl
  have m25 := PySem.W.mg_of X G a25
  have k26 := F26.kp
  have b26 := F26.binds (ps := ["_law_box_here", "_law_places", "_law_edges"]) fun _ _ _ _ _ _ us hl => match us, hl with | [_, _, _], _ => rfl
  have m26 := PySem.W.mg_of X G a26
  have k27 := F27.kp
  have b27 := F27.binds (ps := ["_law_script"]) fun _ _ _ _ _ _ us hl => match us, hl with | [_], _ => rfl
  have n_isinstance := PySem.W.mg_none_of X G z_isinstance
  have n_tuple := PySem.W.mg_none_of X G z_tuple
  have n_str := PySem.W.mg_none_of X G z_str
  have n_int := PySem.W.mg_none_of X G z_int
  have n_bool := PySem.W.mg_none_of X G z_bool
  have n_len := PySem.W.mg_none_of X G z_len
  have n_all := PySem.W.mg_none_of X G z_all
  have n_enumerate := PySem.W.mg_none_of X G z_enumerate
  have n_list := PySem.W.mg_none_of X G z_list
  have n_range := PySem.W.mg_none_of X G z_range
  have n_abs := PySem.W.mg_none_of X G z_abs
  have n_min := PySem.W.mg_none_of X G z_min
  have n_max := PySem.W.mg_none_of X G z_max
  have n_set := PySem.W.mg_none_of X G z_set
  have n_repr := PySem.W.mg_none_of X G z_repr
  have TB : TxtB mg := ⟨n_abs, n_len⟩
  have TM : TxtM mg := ⟨n_list, n_range, n_len⟩
  have TN : TxtN mg := ⟨n_range, n_len, n_int, n_min⟩
  have TT : TxtTr mg := ⟨n_range, n_max, n_tuple⟩
  have TP : TxtP mg := ⟨n_isinstance, n_tuple, n_str, n_int, n_bool, n_len, n_all, n_enumerate, n_list, n_range, n_set⟩
  obtain ⟨tk1, aLN⟩ := aLN
  obtain ⟨tk2, aMP⟩ := aMP
  have gLN := PySem.W.mg_of X G aLN
  have gMP := PySem.W.mg_of X G aMP
  have mN := PySem.W.mg_of X G nN
  have bgN := GN.binds (ps := ["self", "word", "at"]) fun _ _ _ _ _ _ us hl => match us, hl with | [_, _, _], _ => rfl
  have b5 := F5.binds (ps := ["value"]) fun _ _ _ _ _ _ us hl => match us, hl with | [_], _ => rfl
  have ON : OexC K CN := ⟨Hh.excB_ok LN, saN, exN, tyN, kN⟩
  have T : TreeTxt K mg C := ⟨⟨pg, hd, po, sa⟩, na1, na2, na3, na4⟩
  have TPl : PlanTxt K CP := ⟨⟨pgP, hdP, poP, saP⟩, np1, np2, np3, np4, np5⟩
  have M : Mk K C f1 := ⟨mkC, a1, i1, keC⟩
  have MP : Mk K CP f12 := ⟨mkP, a12, i12, keP⟩
  have NN : NoC K mg CN E1 E2 E3 E4 := ⟨mN, PySem.W.exm_ref exN hdN tyN suN, ⟨gaN, ggN, exN, hdN⟩, ⟨gaN, ggN, exN, hdN, hcN, hn, ht, hmN⟩, fNw, fNa, PySem.W.mg_of X G nO1, PySem.W.mg_of X G nO2, PySem.W.mg_of X G nO3, PySem.W.mg_of X G nO4, kaN⟩
  refine ⟨fd27, fun s v => ?_, fun base _ _ => ?_⟩
  · obtain ⟨⟨oc, od, kV, doc, pm, an, cdv, ct, osl, rfl, _, _⟩, _⟩ := F27
    exact .of_eq rfl
  have RZ : Rz P w K mg base CN gN _ := ⟨ON, iiN, tiN, ok_INoTree GN ON fNw fNa, bgN, mN⟩
  have NM : NmC P w K mg base := ⟨⟨C, p5, f5, .type "type", ⟨rdT, gaT⟩, ⟨a5, ⟨_, r5⟩, k5⟩, ((ok_isName F5 TP gLN).raw b5 .nil).imp fun vs H Q E z => (by simpa using z), PySem.W.mg_of X G aC⟩⟩
  have cTuS : Cal P w K mg base 1 "is_tuple_of_strings" ["value"] spTuS := ⟨f6, _, ok_TuS F6 TP, m6, k6, b6⟩
  have cF : CalX P w K mg base 3 "check_form" ["places", "edges"] (spChkF CN) := ⟨⟨f7, _, ok_ChkF F7 TP RZ cTuS, m7, k7, b7⟩⟩
  have cP : CalX P w K mg base 3 "check_places" ["places"] (spChkP CN) := ⟨⟨f8, _, ok_ChkP F8 TP RZ NM gMP, m8, k8, b8⟩⟩
  have cM : CalX P w K mg base 3 "mates_by_place" ["places", "edges"] (spMates CN) := ⟨⟨f9, _, ok_Mates F9 TP RZ, m9, k9, b9⟩⟩
  have cN : Cal P w K mg base 1 "in_place_order" ["mates"] spNear := ⟨f10, _, ok_Near F10, m10, k10, b10⟩
  have cJ : CalX P w K mg base 3 "check_joined" ["places", "edges"] (spJoin CN) := ⟨⟨f11, _, ok_Join F11 TP RZ, m11, k11, b11⟩⟩
  have WC : TreeC P w K mg base C CP CN := { T := T, mki := ⟨f1, _, M, ok_TI F1 TP T TPl cF cP cM cN cJ MP (ok_PlanI F12 TP TPl) b12 (PySem.W.mg_of X G aP), b1⟩, gm := PySem.W.mg_of X G aC, wp := ⟨p2, f2, _, ⟨a2, g2, t2, ⟨_, r2⟩⟩, ok_WW F2 T, b2⟩, rp := ⟨p3, f3, _, ⟨a3, g3, t3, ⟨_, r3⟩⟩, ok_WR F3 T, b3⟩, ln := ⟨f4, _, ok_WL F4 T TP, b4, a4, i4⟩ }
  have cTake : Cal P w K mg base 1 "_law_take" ["_law_box_here", "_law_many"] spTake := ⟨f14, _, ok_take F14 TB, m14, k14, b14⟩
  have cMixed : Cal P w K mg base 2 "_law_mixed" ["_law_box_here", "_law_items"] (spMixed K) := ⟨f15, _, ok_mixed F15 TM cTake, m15, k15, b15⟩
  have cNames : Cal P w K mg base 3 "_law_names" ["_law_box_here", "_law_many"] spNames := ⟨f16, _, ok_names F16 TN cTake cMixed, m16, k16, b16⟩
  have cTree : Cal P w K mg base 4 "_law_tree" ["_law_box_here", "_law_most"] spTree := ⟨f17, _, ok_tree F17 TT cTake cMixed cNames, m17, k17, b17⟩
  have cChanged : Cal P w K mg base 5 "_law_changed" chP (spChanged 3) := ⟨f18, _, ok_changed F18 TP cTake m18 k18 b18 3, m18, k18, b18⟩
  have cSize : Cal P w K mg base 2 "_law_size" ["_law_box_here"] spSize := ⟨f19, _, ok_Size F19 TP cTake, m19, k19, b19⟩
  have cIsName : Cal P w K mg base 1 "_law_is_name" ["_law_value"] spLName := ⟨f20, _, ok_LName F20 TP, m20, k20, b20⟩
  have cForm : Cal P w K mg base 2 "_law_has_form" ["_law_places", "_law_edges"] spLForm := ⟨f21, _, ok_LForm F21 TP, m21, k21, b21⟩
  have cUnl : Pu.CalP P w K mg base Pu.R0 1 "_law_unlinked" ["_law_places", "_law_edges"] (Pu.up Unit pUnl) := ⟨f22, _, ok_Unl F22 TP, m22, k22, b22⟩
  have cDue : Pu.CalGx P w K mg base 3 "_law_due" ["_law_places", "_law_edges"] spLDue := ⟨f23, _, due_of (ok_Due F23 TP (c_form cForm) (c_name cIsName) cUnl), m23, k23, b23⟩
  have cTold : Cal P w K mg base 6 "_law_told" ["_law_places", "_law_edges"] spLTold := ⟨f24, _, ok_LTold F24 TP WC NN, m24, k24, b24⟩
  have cSpaced : Cal P w K mg base 1 "_law_spaced" ["_law_text"] spSpaced := ⟨f25, _, ok_Spaced F25, m25, k25, b25⟩
  have cBent : Cal P w K mg base 6 "_law_bent" lbP spBent := ⟨f26, _, ok_Bent F26 TP cTake cSpaced cChanged cForm, m26, k26, b26⟩
  exact ok_law F27 { T := TP, b_repr := n_repr, cBox := ⟨f13, _, ok_box F13 TB, m13, k13, b13⟩, cTake := cTake, cSize := cSize, cTree := cTree, cDue := cDue, cTold := cTold, cBent := cBent }
theorem facts {P : Program} {w : World} {K : PySem.W.Frag} {h : Heap} {mg : Str → Option Value} {fa : Addr} (X : K.In h) (G : h.Ns mainGlobals mg) (hfa : mg ("law" : Str) = some (.ref fa)) (c : Hh.Says exK dfs K) :
    ∃ fd : FuncData, (∀ (s : Shared) (v : Value), BindsTo s fd ⟨[v], []⟩ [("_law_script", v)]) ∧ ∀ base : Heap, K.In base → base.Ns mainGlobals mg → FnOkG P w K mg base CX0 7 fa fd ["_law_script"] (spLaw K) := by
  have z0 := c.ex_
  obtain ⟨z0, y3⟩ := Bool.and_eq_true_iff.mp z0
  obtain ⟨z0, y2⟩ := Bool.and_eq_true_iff.mp z0
  obtain ⟨z0, y1⟩ := Bool.and_eq_true_iff.mp z0
  have y0 := z0
  obtain ⟨_, F1⟩ := c.fun_ 0 (d := ⟨v_f1, "__init__", "Tree.__init__", pTI⟩) rfl
  obtain ⟨_, F2⟩ := c.fun_ 1 (d := ⟨v_f2, "places", "Tree.places", pWW⟩) rfl
  obtain ⟨_, F3⟩ := c.fun_ 2 (d := ⟨v_f3, "edges", "Tree.edges", pWR⟩) rfl
  obtain ⟨_, F4⟩ := c.fun_ 3 (d := ⟨v_f4, "__len__", "Tree.__len__", pWL⟩) rfl
  obtain ⟨_, F5⟩ := c.fun_ 4 (d := ⟨v_f5, "is_name", "Tree.is_name", pIsName⟩) rfl
  obtain ⟨_, F6⟩ := c.fun_ 5 (d := ⟨v_f6, "is_tuple_of_strings", "is_tuple_of_strings", pTuS⟩) rfl
  obtain ⟨_, F7⟩ := c.fun_ 6 (d := ⟨v_f7, "check_form", "check_form", pForm⟩) rfl
  obtain ⟨_, F8⟩ := c.fun_ 7 (d := ⟨v_f8, "check_places", "check_places", pPlaces⟩) rfl
  obtain ⟨_, F9⟩ := c.fun_ 8 (d := ⟨v_f9, "mates_by_place", "mates_by_place", pMates⟩) rfl
  obtain ⟨_, F10⟩ := c.fun_ 9 (d := ⟨v_f10, "in_place_order", "in_place_order", pNear⟩) rfl
  obtain ⟨_, F11⟩ := c.fun_ 10 (d := ⟨v_f11, "check_joined", "check_joined", pJoined⟩) rfl
  obtain ⟨_, F12⟩ := c.fun_ 11 (d := ⟨v_f12, "__init__", "Plan.__init__", pPlanI⟩) rfl
  obtain ⟨_, F13⟩ := c.fun_ 12 (d := ⟨v_f13, "_law_box", "_law_box", sBox⟩) rfl
  obtain ⟨_, F14⟩ := c.fun_ 13 (d := ⟨v_f14, "_law_take", "_law_take", sTake⟩) rfl
  obtain ⟨_, F15⟩ := c.fun_ 14 (d := ⟨v_f15, "_law_mixed", "_law_mixed", sMixed⟩) rfl
  obtain ⟨_, F16⟩ := c.fun_ 15 (d := ⟨v_f16, "_law_names", "_law_names", sNames⟩) rfl
  obtain ⟨_, F17⟩ := c.fun_ 16 (d := ⟨v_f17, "_law_tree", "_law_tree", sTree⟩) rfl
  obtain ⟨_, F18⟩ := c.fun_ 17 (d := ⟨v_f18, "_law_changed", "_law_changed", lChanged⟩) rfl
  obtain ⟨_, F19⟩ := c.fun_ 18 (d := ⟨v_f19, "_law_size", "_law_size", lSize⟩) rfl
  obtain ⟨_, F20⟩ := c.fun_ 19 (d := ⟨v_f20, "_law_is_name", "_law_is_name", lIsName⟩) rfl
  obtain ⟨_, F21⟩ := c.fun_ 20 (d := ⟨v_f21, "_law_has_form", "_law_has_form", lForm⟩) rfl
  obtain ⟨_, F22⟩ := c.fun_ 21 (d := ⟨v_f22, "_law_unlinked", "_law_unlinked", lUnl⟩) rfl
  obtain ⟨_, F23⟩ := c.fun_ 22 (d := ⟨v_f23, "_law_due", "_law_due", lDue⟩) rfl
  obtain ⟨_, F24⟩ := c.fun_ 23 (d := ⟨v_f24, "_law_told", "_law_told", lTold⟩) rfl
  obtain ⟨_, F25⟩ := c.fun_ 24 (d := ⟨v_f25, "_law_spaced", "_law_spaced", lSpaced⟩) rfl
  obtain ⟨_, F26⟩ := c.fun_ 25 (d := ⟨v_f26, "_law_bent", "_law_bent", lBent⟩) rfl
  obtain ⟨_, F27⟩ := c.fun_ 26 (d := ⟨v_f27, "law", "law", lLaw⟩) rfl
  obtain ⟨_, GN⟩ := c.fun_ 27 (d := ⟨v_gN, "__init__", "NoTree.__init__", pINoTree⟩) rfl
  exact all_mk (CP := v_CP K) (CN := v_CN K) (gN := v_gN K) (E1 := v_E1 K) (E2 := v_E2 K) (E3 := v_E3 K) (E4 := v_E4 K) (C := v_C K) (f1 := v_f1 K) (p2 := v_p2 K) (f2 := v_f2 K) (rs2 := v_rs2 K) (p3 := v_p3 K) (f3 := v_f3 K) (rs3 := v_rs3 K) (f4 := v_f4 K) (p5 := v_p5 K) (f5 := v_f5 K) (rs5 := v_rs5 K) (f6 := v_f6 K) (f7 := v_f7 K) (f8 := v_f8 K) (f9 := v_f9 K) (f10 := v_f10 K) (f11 := v_f11 K) (f12 := v_f12 K) (f13 := v_f13 K) (f14 := v_f14 K) (f15 := v_f15 K) (f16 := v_f16 K) (f17 := v_f17 K) (f18 := v_f18 K) (f19 := v_f19 K) (f20 := v_f20 K) (f21 := v_f21 K) (f22 := v_f22 K) (f23 := v_f23 K) (f24 := v_f24 K) (f25 := v_f25 K) (f26 := v_f26 K) (f27 := v_f27 K) X G hfa (of_decide_eq_true (Hh.nth y0 0 rfl))
    (of_decide_eq_true (Hh.nth y0 1 rfl))
    (Hh.nth y0 2 rfl)
    F1
    (of_decide_eq_true (Hh.nth y0 3 rfl))
    (of_decide_eq_true (Hh.nth y0 4 rfl))
    (of_decide_eq_true (Hh.nth y0 5 rfl))
    (Hh.recB_ok (Hh.nth y0 6 rfl))
    F2
    (of_decide_eq_true (Hh.nth y0 7 rfl))
    (of_decide_eq_true (Hh.nth y0 8 rfl))
    (of_decide_eq_true (Hh.nth y0 9 rfl))
    (Hh.recB_ok (Hh.nth y0 10 rfl))
    F3
    (of_decide_eq_true (Hh.nth y0 11 rfl))
    (Hh.nth y0 12 rfl)
    F4
    (Hh.getB_ok (Hh.nth y0 13 rfl))
    (of_decide_eq_true (Hh.nth y0 14 rfl))
    (of_decide_eq_true (Hh.nth y0 15 rfl))
    (of_decide_eq_true (Hh.nth y0 16 rfl))
    (of_decide_eq_true (Hh.nth y0 17 rfl))
    (Hh.recB_ok (Hh.nth y0 18 rfl))
    F5
    (of_decide_eq_true (Hh.nth y0 19 rfl))
    F6
    (of_decide_eq_true (Hh.nth y0 20 rfl))
    F7
    (of_decide_eq_true (Hh.nth y0 21 rfl))
    F8
    (of_decide_eq_true (Hh.nth y0 22 rfl))
    F9
    (of_decide_eq_true (Hh.nth y0 23 rfl))
    F10
    (of_decide_eq_true (Hh.nth y0 24 rfl))
    F11
    (of_decide_eq_true (Hh.nth y0 25 rfl))
    (Hh.nth y0 26 rfl)
    F12
    (of_decide_eq_true (Hh.nth y0 27 rfl))
    F13
    (of_decide_eq_true (Hh.nth y0 28 rfl))
    F14
    (of_decide_eq_true (Hh.nth y0 29 rfl))
    F15
    (of_decide_eq_true (Hh.nth y1 0 rfl))
    F16
    (of_decide_eq_true (Hh.nth y1 1 rfl))
    F17
    (of_decide_eq_true (Hh.nth y1 2 rfl))
    F18
    (of_decide_eq_true (Hh.nth y1 3 rfl))
    F19
    (of_decide_eq_true (Hh.nth y1 4 rfl))
    F20
    (of_decide_eq_true (Hh.nth y1 5 rfl))
    F21
    (of_decide_eq_true (Hh.nth y1 6 rfl))
    F22
    (of_decide_eq_true (Hh.nth y1 7 rfl))
    F23
    (of_decide_eq_true (Hh.nth y1 8 rfl))
    F24
    (of_decide_eq_true (Hh.nth y1 9 rfl))
    F25
    (of_decide_eq_true (Hh.nth y1 10 rfl))
    F26
    (of_decide_eq_true (Hh.nth y1 11 rfl))
    F27
    GN
    (Hh.nth y1 12 rfl)
    (Hh.nth y1 13 rfl)
    (Hh.nth y1 14 rfl)
    (of_decide_eq_true (Hh.nth y1 15 rfl))
    (Hh.nth y1 16 rfl)
    (Hh.nth y1 17 rfl)
    (of_decide_eq_true (Hh.nth y1 18 rfl))
    (of_decide_eq_true (Hh.nth y1 19 rfl))
    (of_decide_eq_true (Hh.nth y1 20 rfl))
    (of_decide_eq_true (Hh.nth y1 21 rfl))
    (Hh.nth y1 22 rfl)
    (Hh.nth y1 23 rfl)
    (Hh.nth y1 24 rfl)
    (of_decide_eq_true (Hh.nth y1 25 rfl))
    (Hh.nth y1 26 rfl)
    (Hh.nth y1 27 rfl)
    (of_decide_eq_true (Hh.nth y1 28 rfl))
    (of_decide_eq_true (Hh.nth y1 29 rfl))
    (of_decide_eq_true (Hh.nth y2 0 rfl))
    (of_decide_eq_true (Hh.nth y2 1 rfl))
    (of_decide_eq_true (Hh.nth y2 2 rfl))
    (of_decide_eq_true (Hh.nth y2 3 rfl))
    (Hh.nth y2 4 rfl)
    (of_decide_eq_true (Hh.nth y2 5 rfl))
    (Hh.intAt_ok (Hh.nth y2 6 rfl))
    (Hh.intAt_ok (Hh.nth y2 7 rfl))
    (of_decide_eq_true (Hh.nth y2 8 rfl))
    (of_decide_eq_true (Hh.nth y2 9 rfl))
    (of_decide_eq_true (Hh.nth y2 10 rfl))
    (of_decide_eq_true (Hh.nth y2 11 rfl))
    (of_decide_eq_true (Hh.nth y2 12 rfl))
    (Hh.nth y2 13 rfl)
    (Hh.nth y2 14 rfl)
    (of_decide_eq_true (Hh.nth y2 15 rfl))
    (of_decide_eq_true (Hh.nth y2 16 rfl))
    (of_decide_eq_true (Hh.nth y2 17 rfl))
    (of_decide_eq_true (Hh.nth y2 18 rfl))
    (of_decide_eq_true (Hh.nth y2 19 rfl))
    (Hh.nth y2 20 rfl)
    (of_decide_eq_true (Hh.nth y2 21 rfl))
    (of_decide_eq_true (Hh.nth y2 22 rfl))
    (of_decide_eq_true (Hh.nth y2 23 rfl))
    (of_decide_eq_true (Hh.nth y2 24 rfl))
    (of_decide_eq_true (Hh.nth y2 25 rfl))
    (of_decide_eq_true (Hh.nth y2 26 rfl))
    (of_decide_eq_true (Hh.nth y2 27 rfl))
    (of_decide_eq_true (Hh.nth y2 28 rfl))
    (of_decide_eq_true (Hh.nth y2 29 rfl))
    (of_decide_eq_true (Hh.nth y3 0 rfl))
    (of_decide_eq_true (Hh.nth y3 1 rfl))
    (of_decide_eq_true (Hh.nth y3 2 rfl))
    (of_decide_eq_true (Hh.nth y3 3 rfl))
    (of_decide_eq_true (Hh.nth y3 4 rfl))
    (of_decide_eq_true (Hh.nth y3 5 rfl))
    (of_decide_eq_true (Hh.nth y3 6 rfl))
    (of_decide_eq_true (Hh.nth y3 7 rfl))
    (of_decide_eq_true (Hh.nth y3 8 rfl))
    (of_decide_eq_true (Hh.nth y3 9 rfl))
    (of_decide_eq_true (Hh.nth y3 10 rfl))
    (of_decide_eq_true (Hh.nth y3 11 rfl))
    (of_decide_eq_true (Hh.nth y3 12 rfl))
    (of_decide_eq_true (Hh.nth y3 13 rfl))
    (of_decide_eq_true (Hh.nth y3 14 rfl))
    (of_decide_eq_true (Hh.nth y3 15 rfl))
end Tg
open PySem PySem.W PySem.Calls PyProof.Rows
set_option maxRecDepth 100000 in
set_option maxHeartbeats 0 in
theorem PySem.Challenge.cw_towgrove_k04_values_that_are_trees_holds : PySem.Challenge.rw_towgrove_k04_values_that_are_trees.Holds := by
  w_on; o_law
  refine HandSHeadRun.head_any (r := OpenLaw.row PySem.Challenge.rw_towgrove_k04_values_that_are_trees) (q := view (OpenLaw.row PySem.Challenge.rw_towgrove_k04_values_that_are_trees).prog [39]) (H := Tg.hk) (ob := Hh.ob Tg.adrs Tg.exK Tg.dfs) (M := 9000) (loose := Tg.names) (d := HandSHeadRun.topDef (OpenLaw.row PySem.Challenge.rw_towgrove_k04_values_that_are_trees).prog 39) (kwd := []) Hh.ob_eq
    (by kernel_rfl) (fun s => by kernel_rfl) Tg.run (by kernel_rfl) (by kernel_rfl) (by kernel_rfl) (by rfl) (by first | assumption | decide +kernel) (by decide +kernel) ⟨rfl, rfl, rfl, rfl, rfl, by decide +kernel⟩ ?hw ?hc
  case hw => w_witness2
  case hc =>
    refine Ow.walk_GE (l := PySem.Challenge.rw_towgrove_k04_values_that_are_trees) (n := 63) (k := 7) (x := "_law_script") rfl (by decide) (by kernel_rfl) ⟨rfl, by decide, by decide⟩ ?F
    intro w mg fa h Y G hmg0
    obtain ⟨K, KX, c⟩ := Y
    have hmg : mg ("law" : PySem.Str) = some (.ref fa) := by
      have e : (HandSHeadRun.topDef (OpenLaw.row PySem.Challenge.rw_towgrove_k04_values_that_are_trees).prog 39).name = ("law" : PySem.Str) := by kernel_rfl
      rw [← e]
      exact hmg0
    obtain ⟨fd, hb, hF⟩ := Tg.facts (P := (PySem.Challenge.rw_towgrove_k04_values_that_are_trees).prog) (w := w) KX G hmg c
    exact ⟨K, fd, Tg.spLaw K, KX, hb, fun H a ns hl hS => ⟨a, ns, rfl, hS, hl, fun _ => rfl⟩, hF⟩
#print axioms PySem.Challenge.cw_towgrove_k04_values_that_are_trees_holds

