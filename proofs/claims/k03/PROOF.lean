import PyProof.Rows.All
import Wide.All
import OpenK.AllK
import Wide.FinOn
import HandS.ForMost
import PyProof.ReprRoads
import HandS.Wide
import HandS.Style
import HandS.IsInst
import KE.KOpsOwn
import KE.KFmtOwn
import KE.KCallOwn
import PyProof.FactsAll.object_2
import HandS.ClsMeth
import HandS.CallLocal
import HandS.TupLe
import HandS.Star
import HandS.OwnEq
import HandS.Property
import HandS.FStr
import HandS.RaiseMore
import PyProof.ListIndex
import HandS.Walk
import HandS.NoneIn
import PySem.Challenge.RW_towgrove_k03_whole_sums_and_least_length
set_option Elab.async false
set_option linter.all false
set_option maxRecDepth 100000
set_option maxHeartbeats 4000000
/-! promises of defs where no repr is under way, and repr of lists and tuples -/
namespace Ow
open PySem PySem.Spec PyProof.Rows L2
/-- a promise that may use that nothing around is showing itself -/
structure FnOkG (P : Program) (w : World) (K : PySem.W.Frag) (mg : Str → Option Value) (base : Heap) (CX : CXT) (k : Nat) (f : Addr) (fd : FuncData) (ps : List Str) (sp : Sp) : Prop where
  len : ∀ us H Q E, sp us H Q E → us.length = ps.length
  go : ∀ (A : Around) (out : List Env) (s : Shared) (H : Hp) (ar : Args) (us : List Value) (vs : List V) (Q : VK) (E : XK), A.guards = some [] → Room k A → Env0 P w K mg base A out s H → BindsTo s fd ar (ps.zip us) → Vals vs us →
    sp vs H Q E → codeAny (model P w) A (.call (.ref f) ar) (CR CX out P w H s Q E) s
section
variable {P : Program} {w : World} {K : PySem.W.Frag} {mg : Str → Option Value} {base : Heap}
theorem FnOkG.of {CX : CXT} {k : Nat} {f : Addr} {fd : FuncData} {ps : List Str} {sp : Sp} (F : FnOk P w K mg base CX k f fd ps sp) : FnOkG P w K mg base CX k f fd ps sp :=
  ⟨F.len, fun A out s H ar us vs Q E _ hr e0 hb r h => F.run A out s H ar us vs Q E hr e0 hb r h⟩
theorem okG {x qual : Str} {st : Stmt} {f : Addr} {fd : FuncData} {N ps : List Str} {k : Nat} {sp : Sp} (F : Fun K x qual st f fd) (S : FnScope N ps (defScope st)) (len : ∀ vs H Q E, sp vs H Q E → vs.length = ps.length)
    (hbody : ∀ (cdv : Value) (A : Around) (outer : List Env) (s : Shared) (H : Hp) (vs : List V) (Q : VK) (E : XK), A.guards = some [] → Room k (A.deeper (envOfC qual (defScope st) s.heap.objs.size f cdv)) → sp vs H Q E →
      ∃ t, PSs (cxOf CX0 P w K mg base N qual (defScope st) f cdv A outer s H E).nox (defBody st) t ∧ t { nx := fun _ H' => Q .non H', rt := Q } (start N vs) H) : FnOkG P w K mg base CX0 (k + 1) f fd ps sp := by
  refine ⟨len, fun A out s H ar us vs Q E hg hr e0 hb r hsp => ?_⟩
  obtain ⟨oc, od, kV, doc, pm, an, cdv, ct, osl, rfl, lk, hcd⟩ := F.ex
  have hl := len _ _ _ _ hsp
  have KX : K.In s.heap := e0.mod.kin.keeps fun b o e => (e0.bs b o e).1
  have lim : s.heap.NoLimit := e0.mod.nolimit.keeps fun b o e => (e0.bs b o e).1
  refine codeAny_call_function hr.depth (KX _ _ lk) rfl S.co S.gen rfl (PySem.W.codeRec_of KX hcd) (hb _ _ _ _ ?_)
  refine wpAny_newFunctionEnv_cells S.kind (fun y hy => ?_) fun env he s1 x => ?_
  · rcases S.par y.1 (List.of_mem_zip hy).1 with q | q
    · exact .inl q
    · exact .inr ⟨q, PySem.W.cellsFrom_some _ _ _ (.inl q)⟩
  subst he
  refine ⟨lim.keeps x.toInCall.keep, codeAny_func ?_⟩
  obtain ⟨t, ht, hq⟩ := hbody cdv A out s H vs Q E hg (hr.deeper _) hsp
  have I := inv_start (CX := CX0) (P := P) (w := w) (K := K) (mg := mg) (base := base) (E := E) S hr.hd e0 hl r x
  refine wpAny_mono (ht.nox.run [] s1 (start N vs) H _ I hq) (fun fl s' hs => ?_) fun e s' hs => hs
  cases fl with
  | ret u =>
    obtain ⟨v, σ', H', J, rv, q⟩ := hs
    exact ⟨v, H', J.os, J.bare, J.base, J.hok, rv, q⟩
  | next =>
    obtain ⟨σ', H', J, q⟩ := hs
    exact ⟨.non, H', J.os, J.bare, J.base, J.hok, rfl, q⟩
  | brk => exact hs.choose_spec.choose_spec.2.elim
  | cont => exact hs.choose_spec.choose_spec.2.elim
section
variable {X : Cx} {CX : CXT} {k : Nat} {f : Addr} {fd : FuncData} {ps : List Str} {sp : Sp} {dvs : List V} {ds : List Value} {E : XK} {x : Str} {p pos : Pos} {e : Expr} {es : List Expr} {t : TA}
theorem run_G {pins : List (Addr × Obj)} {σ : L2.St} {H : Hp} {s : Shared} {Q : VK} {us : List Value} {vs : List V} (hg : X.A.guards = some []) (F : FnOkG X.prog X.w X.K X.mg X.base CX k f fd ps sp) (hr : Room k X.A) (hb : Binds X.K fd ps ds) (hd : Vals dvs ds)
    (hx : Passes CX X E) (I : Inv X pins σ H s) (r : Vals vs us) (h : sp (vs ++ dvs) H Q E) : wpAny (model X.prog X.w) X.A (call (.ref f) us) (EP X pins σ Q) X.xe s := by
  have r2 : Vals (vs ++ dvs) (us ++ ds) := r.append hd
  have hl := (F.len _ _ _ _ h).symm.trans r2.length
  refine wpAny_call (codeAny_mono (F.go X.A X.stack s H ⟨us, []⟩ _ _ Q E hg hr I.env0 (hb s us I.kIn hl.symm) r2 h) fun res s' hq => ?_)
  cases res with
  | error er => exact hx pins σ H s er s' I hq
  | ok fl => cases fl <;> first | exact I.after hq | exact False.elim hq
theorem pe_callG (hg : X.A.guards = some []) (F : FnOkG X.prog X.w X.K X.mg X.base CX k f fd ps sp) (hr : Room k X.A) (gl : Gl X x) (hm : X.mg x = some (.ref f)) (hk : PySem.W.keepIn X.K (.ref f) = true) (hb : Binds X.K fd ps ds) (hd : Vals dvs ds)
    (hx : Passes CX X E) (ha : PA X (e :: es) t) (hdb : (x == ("__debug__" : Str)) = false := by decide) (he : starEach (e :: es) X.env = (false, eval e X.env) :: starEach es X.env := by rfl)
    (hpl : (backTo pos (starEach es X.env)).any (·.1) = false := by rfl) : PE X (.Call (.Name x p) (e :: es) [] pos) (tCall sp dvs E t) := by
  refine ⟨fun pins s σ H Q I h => wpAny_Call_Name_kw (ld_glob I gl hm ?_ hdb)⟩
  refine PySem.W.callWith_K (h₀ := X.base) I.ok.mod.kin hk (thn (ha.run pos pins s σ H _ I h) fun us s1 z => ?_) he hpl
  obtain ⟨vs, H1, I1, r, q⟩ := z
  exact ⟨I1.kIn, run_G hg F hr hb hd hx I1 r q⟩
/-- repr of a list or tuple of plain data -/
def rReprD (K : PySem.W.Frag) : List V → Hp → VK → Prop := fun xs H Q => ∃ a d, xs = [.ref a] ∧ Dp K H (.ref a) d ∧ d.showable = true ∧ d.hasDict = false ∧ d.depth ≤ 64 ∧ d.shown.length ≤ sizeLine ∧ Q (.str d.shown) H
theorem call_reprD (hg : X.A.guards = some []) (hr : Room k X.A) : CallR X (.builtin "repr") (rReprD X.K) := by
  intro pins s σ H xs us Q I r h
  obtain ⟨a, d, rfl, D, sh, nd, dp, sz, q⟩ := h
  cases r with
  | cons r1 rn =>
    cases rn
    cases (show _ = Value.ref a from r1)
    obtain ⟨as, R⟩ := D.reads I d _ _ rfl
    have hu := hr.un
    refine repr_of_reads' R sh (fun z => by rw [nd] at z; cases z) hg (by omega) (fun _ _ z => z) (fun h' u tk hk => ?_) sz
    exact ⟨.str d.shown, H, I.kept hk, ⟨u, rfl⟩, q⟩
end
end
end Ow

namespace Tg
open PySem L2 Ow
/-! ### the box of draws -/
def kvsB (L : Addr) (now seed turn : Int) : List (Key × V) := [(.inr "great", .ref L), (.inr "now", .int now), (.inr "seed", .int seed), (.inr "turn", .int turn)]
theorem n_great_now : ¬ ((.inr "great" : Key) = .inr "now") := by decide +kernel
theorem n_great_seed : ¬ ((.inr "great" : Key) = .inr "seed") := by decide +kernel
theorem n_great_turn : ¬ ((.inr "great" : Key) = .inr "turn") := by decide +kernel
theorem n_now_great : ¬ ((.inr "now" : Key) = .inr "great") := by decide +kernel
theorem n_now_seed : ¬ ((.inr "now" : Key) = .inr "seed") := by decide +kernel
theorem n_now_turn : ¬ ((.inr "now" : Key) = .inr "turn") := by decide +kernel
theorem n_seed_great : ¬ ((.inr "seed" : Key) = .inr "great") := by decide +kernel
theorem n_seed_now : ¬ ((.inr "seed" : Key) = .inr "now") := by decide +kernel
theorem n_seed_turn : ¬ ((.inr "seed" : Key) = .inr "turn") := by decide +kernel
theorem n_turn_great : ¬ ((.inr "turn" : Key) = .inr "great") := by decide +kernel
theorem n_turn_now : ¬ ((.inr "turn" : Key) = .inr "now") := by decide +kernel
theorem n_turn_seed : ¬ ((.inr "turn" : Key) = .inr "seed") := by decide +kernel
theorem vB_great (L : Addr) (now seed turn : Int) : valV (kvsB L now seed turn) (.inr "great" : Key) = some (.ref L) := by
  unfold kvsB
  rw [valV_pos rfl]
theorem vB_now (L : Addr) (now seed turn : Int) : valV (kvsB L now seed turn) (.inr "now" : Key) = some (.int now) := by
  unfold kvsB
  rw [valV_neg n_great_now, valV_pos rfl]
theorem vB_seed (L : Addr) (now seed turn : Int) : valV (kvsB L now seed turn) (.inr "seed" : Key) = some (.int seed) := by
  unfold kvsB
  rw [valV_neg n_great_seed, valV_neg n_now_seed, valV_pos rfl]
theorem vB_turn (L : Addr) (now seed turn : Int) : valV (kvsB L now seed turn) (.inr "turn" : Key) = some (.int turn) := by
  unfold kvsB
  rw [valV_neg n_great_turn, valV_neg n_now_turn, valV_neg n_seed_turn, valV_pos rfl]
theorem pB_now (L : Addr) (now seed turn z : Int) : putK (kvsB L now seed turn) (.inr "now" : Key) (.int z) = kvsB L z seed turn := by
  have e1 : ¬ ((.inr "great" : Key) = .inr "now") := by decide +kernel
  have e2 : ¬ ((.inr "seed" : Key) = .inr "now") := by decide +kernel
  have e3 : ¬ ((.inr "turn" : Key) = .inr "now") := by decide +kernel
  unfold kvsB putK
  simp [e1, e2, e3]
theorem pB_seed (L : Addr) (now seed turn z : Int) : putK (kvsB L now seed turn) (.inr "seed" : Key) (.int z) = kvsB L now z turn := by
  have e1 : ¬ ((.inr "great" : Key) = .inr "seed") := by decide +kernel
  have e2 : ¬ ((.inr "now" : Key) = .inr "seed") := by decide +kernel
  have e3 : ¬ ((.inr "turn" : Key) = .inr "seed") := by decide +kernel
  unfold kvsB putK
  simp [e1, e2, e3]
theorem pB_turn (L : Addr) (now seed turn z : Int) : putK (kvsB L now seed turn) (.inr "turn" : Key) (.int z) = kvsB L now seed z := by
  have e1 : ¬ ((.inr "great" : Key) = .inr "turn") := by decide +kernel
  have e2 : ¬ ((.inr "now" : Key) = .inr "turn") := by decide +kernel
  have e3 : ¬ ((.inr "seed" : Key) = .inr "turn") := by decide +kernel
  unfold kvsB putK
  simp [e1, e2, e3]
theorem z_great_now : ¬ (("great" : Str) = "now") := by decide +kernel
theorem z_great_seed : ¬ (("great" : Str) = "seed") := by decide +kernel
theorem z_great_turn : ¬ (("great" : Str) = "turn") := by decide +kernel
theorem z_now_great : ¬ (("now" : Str) = "great") := by decide +kernel
theorem z_now_seed : ¬ (("now" : Str) = "seed") := by decide +kernel
theorem z_now_turn : ¬ (("now" : Str) = "turn") := by decide +kernel
theorem z_seed_great : ¬ (("seed" : Str) = "great") := by decide +kernel
theorem z_seed_now : ¬ (("seed" : Str) = "now") := by decide +kernel
theorem z_seed_turn : ¬ (("seed" : Str) = "turn") := by decide +kernel
theorem z_turn_great : ¬ (("turn" : Str) = "great") := by decide +kernel
theorem z_turn_now : ¬ (("turn" : Str) = "now") := by decide +kernel
theorem z_turn_seed : ¬ (("turn" : Str) = "seed") := by decide +kernel
theorem merge_kvsB (L : Addr) (now seed turn : Int) : mergeK [] (kvsB L now seed turn) = kvsB L now seed turn := by
  unfold kvsB mergeK
  simp [putK, z_great_now, z_great_seed, z_great_turn, z_now_seed, z_now_turn, z_seed_turn]
/-- the box at b, its great cells at L -/
structure BoxAt (H : Hp) (b L : Addr) (gs : List Int) (now seed turn : Int) : Prop where
  dc : H b = some (.dK (kvsB L now seed turn))
  ls : H L = some (.lst (gs.map V.int))
  now0 : 0 ≤ now
  seed0 : 0 ≤ seed
  seed1 : seed ≤ 2147483648
  pos : ∀ g ∈ gs, 0 ≤ g
def Box (b L : Addr) (H : Hp) : Prop := ∃ gs now seed turn, BoxAt H b L gs now seed turn
/-- all but the box stands as it stood -/
def Kp (b L : Addr) (H H' : Hp) : Prop := ∀ a o, a ≠ b → a ≠ L → H a = some o → H' a = some o
theorem Kp.refl (b L : Addr) (H : Hp) : Kp b L H H := fun _ _ _ _ h => h
theorem Kp.trans {b L : Addr} {H H1 H2 : Hp} (x : Kp b L H H1) (y : Kp b L H1 H2) : Kp b L H H2 := fun a o n1 n2 h => y a o n1 n2 (x a o n1 n2 h)
theorem BoxAt.ne {H : Hp} {b L : Addr} {gs : List Int} {now seed turn : Int} (B : BoxAt H b L gs now seed turn) : b ≠ L := ne_of B.dc B.ls (by intro z; cases z)
theorem BoxAt.put {H : Hp} {b L : Addr} {gs : List Int} {now seed turn now' seed' turn' : Int} (B : BoxAt H b L gs now seed turn) (h0 : 0 ≤ now') (h1 : 0 ≤ seed') (h2 : seed' ≤ 2147483648) :
    BoxAt (upd H b (.dK (kvsB L now' seed' turn'))) b L gs now' seed' turn' ∧ Kp b L H (upd H b (.dK (kvsB L now' seed' turn'))) :=
  ⟨⟨upd_same, by rw [upd_ne B.ne.symm]; exact B.ls, h0, h1, h2, B.pos⟩, fun a o n1 _ h => by rw [upd_ne n1]; exact h⟩
theorem BoxAt.pop {H : Hp} {b L : Addr} {gs : List Int} {now seed turn : Int} (B : BoxAt H b L gs now seed turn) :
    BoxAt (upd H L (.lst (gs.map V.int).dropLast)) b L gs.dropLast now seed turn ∧ Kp b L H (upd H L (.lst (gs.map V.int).dropLast)) :=
  ⟨⟨by rw [upd_ne B.ne]; exact B.dc, by rw [upd_same, List.map_dropLast], B.now0, B.seed0, B.seed1, fun g h => B.pos g (List.dropLast_subset _ h)⟩, fun a o _ n2 h => by rw [upd_ne n2]; exact h⟩

theorem dget_of {H : Hp} {a : Addr} {kvs : List (Key × V)} {k : Key} {v : V} (e : H a = some (.dK kvs)) (h : valV kvs k = some v) : DGet H a (kV k) (some v) := by
  rw [← h]
  exact DGet.k e
theorem dput_of {H : Hp} {a : Addr} {kvs kvs' : List (Key × V)} {k : Key} {v : V} (e : H a = some (.dK kvs)) (h : putK kvs k v = kvs') (hl : kvs.length < sizeLine) : DPut H a (kV k) v (upd H a (.dK kvs')) := by
  rw [← h]
  exact DPut.k e hl
section
variable {H : Hp} {b L : Addr} {gs : List Int} {now seed turn : Int}
theorem kvsB_len : (kvsB L now seed turn).length < sizeLine := by
  show 4 < sizeLine
  decide
theorem BoxAt.ggreat (B : BoxAt H b L gs now seed turn) : DGet H b (.str "great") (some (.ref L)) := dget_of (k := .inr "great") B.dc (vB_great _ _ _ _)
theorem BoxAt.gnow (B : BoxAt H b L gs now seed turn) : DGet H b (.str "now") (some (.int now)) := dget_of (k := .inr "now") B.dc (vB_now _ _ _ _)
theorem BoxAt.gseed (B : BoxAt H b L gs now seed turn) : DGet H b (.str "seed") (some (.int seed)) := dget_of (k := .inr "seed") B.dc (vB_seed _ _ _ _)
theorem BoxAt.gturn (B : BoxAt H b L gs now seed turn) : DGet H b (.str "turn") (some (.int turn)) := dget_of (k := .inr "turn") B.dc (vB_turn _ _ _ _)
theorem BoxAt.pnow (B : BoxAt H b L gs now seed turn) (z : Int) : DPut H b (.str "now") (.int z) (upd H b (.dK (kvsB L z seed turn))) := dput_of (k := .inr "now") B.dc (pB_now _ _ _ _ _) kvsB_len
theorem BoxAt.pseed (B : BoxAt H b L gs now seed turn) (z : Int) : DPut H b (.str "seed") (.int z) (upd H b (.dK (kvsB L now z turn))) := dput_of (k := .inr "seed") B.dc (pB_seed _ _ _ _ _) kvsB_len
theorem BoxAt.pturn (B : BoxAt H b L gs now seed turn) (z : Int) : DPut H b (.str "turn") (.int z) (upd H b (.dK (kvsB L now seed z))) := dput_of (k := .inr "turn") B.dc (pB_turn _ _ _ _ _) kvsB_len
end
/-- what follows is shown once, for all ways of what stands ahead -/
theorem seq_rest {t u : TS} {D : Ends} {σ : St} {H : Hp} (W : St → Hp → Prop) (h2 : ∀ σ' H', W σ' H' → u D σ' H') (h1 : (∀ σ' H', W σ' H' → u D σ' H') → t { D with nx := u D } σ H) : tSeq t u D σ H := h1 h2
theorem pos_lit {j : Int} (h : 0 < j) : 0 < j := h
/-! ### a draw -/
def spTake : Sp := fun vs H Q _ => ∃ (b L : Addr) (m : Int), vs = [.ref b, .int m] ∧ 0 < m ∧ m.natAbs.log2 < 9000 ∧ Box b L H ∧
  ∀ (d : Int) (H' : Hp), 0 ≤ d → d < m → Box b L H' → Kp b L H H' → Q (.int d) H'
/-! ### the promise of the box's maker -/
def spBox (K : PySem.W.Frag) : Sp := fun vs H Q _ => ∃ (a : Addr) (ns : List Int) (e : Int), vs = [.ref a, .int e] ∧ SqL K H a (ns.map V.int) ∧ ns.length ≤ 63 ∧ 0 ≤ e ∧ e ≤ 1000 ∧
  ∀ (b L : Addr) (H' : Hp), H b = none → H L = none → Same H H' → Box b L H' → Q (.ref b) H'
theorem cut_ints (ns : List Int) (lo hi : Option Int) : ∃ ms : List Int, cutV (ns.map V.int) lo hi = ms.map V.int ∧ ms.length ≤ ns.length := by
  refine ⟨(ns.drop (HT.sIx (ns.map V.int).length 0 lo)).take (HT.sIx (ns.map V.int).length (ns.map V.int).length hi - HT.sIx (ns.map V.int).length 0 lo), ?_, ?_⟩
  · unfold cutV
    rw [List.map_take, List.map_drop]
  · rw [List.length_take, List.length_drop]
    omega
theorem ints_at {ns : List Int} {i : Nat} {y : V} (h : (ns.map V.int)[i]? = some y) : ∃ z, ns[i]? = some z ∧ y = V.int z := by
  rw [List.getElem?_map] at h
  cases e : ns[i]? with
  | none => rw [e] at h; cases h
  | some z => rw [e] at h; exact ⟨z, rfl, (Option.some.inj h).symm⟩
theorem same_upd {H H' : Hp} {p : Addr} {o : HO} (s : Same H H') (n : H p = none) : Same H (upd H' p o) := fun b u e => by
  rw [upd_ne (ne_of_none e n)]
  exact s b u e

/-! ### a def that is called by its name -/
structure Cal (P : Program) (w : World) (K : PySem.W.Frag) (mg : Str → Option Value) (base : Heap) (k : Nat) (x : Str) (ps : List Str) (sp : Sp) : Prop where
  ex : ∃ f fd, FnOk P w K mg base CX0 k f fd ps sp ∧ mg x = some (.ref f) ∧ PySem.W.keepIn K (.ref f) = true ∧ Binds K fd ps []
structure CalG (P : Program) (w : World) (K : PySem.W.Frag) (mg : Str → Option Value) (base : Heap) (k : Nat) (x : Str) (ps : List Str) (sp : Sp) : Prop where
  ex : ∃ f fd, FnOkG P w K mg base CX0 k f fd ps sp ∧ mg x = some (.ref f) ∧ PySem.W.keepIn K (.ref f) = true ∧ Binds K fd ps []
section
variable {X : Cx} {k j : Nat} {x : Str} {ps : List Str} {sp : Sp} {p pos : Pos} {e : Expr} {es : List Expr} {t : TA}
theorem pe_cal (c : Cal X.prog X.w X.K X.mg X.base k x ps sp) (hr : Room k X.A) (hg : Gl X x) (ha : PA X (e :: es) t) (hdb : (x == ("__debug__" : Str)) = false := by decide)
    (he : starEach (e :: es) X.env = (false, eval e X.env) :: starEach es X.env := by rfl) (hpl : (backTo pos (starEach es X.env)).any (·.1) = false := by rfl) :
    PE X (.Call (.Name x p) (e :: es) [] pos) (tCall sp [] E0 t) := by
  obtain ⟨f, fd, F, hm, hk, hb⟩ := c.ex
  exact pe_call F hr hg hm hk hb .nil pass0 ha hdb he hpl
theorem pe_calG (c : CalG X.prog X.w X.K X.mg X.base k x ps sp) (gd : X.A.guards = some []) (hr : Room k X.A) (hg : Gl X x) (ha : PA X (e :: es) t) (hdb : (x == ("__debug__" : Str)) = false := by decide)
    (he : starEach (e :: es) X.env = (false, eval e X.env) :: starEach es X.env := by rfl) (hpl : (backTo pos (starEach es X.env)).any (·.1) = false := by rfl) :
    PE X (.Call (.Name x p) (e :: es) [] pos) (tCall sp [] E0 t) := by
  obtain ⟨f, fd, F, hm, hk, hb⟩ := c.ex
  exact pe_callG gd F hr hg hm hk hb .nil pass0 ha hdb he hpl
end
end Tg

/-! own operators of own classes, over the hand layer -/
namespace Ow
open PySem PySem.Spec PyProof.Rows L2 PySem.W
section
variable {X : Cx} {pins : List (Addr × Obj)} {σ : L2.St} {H : Hp} {s : Shared} {a C dx : Addr} {fs : List (Str × V)}
theorem ins_inst (I : Inv X pins σ H s) (e : H a = some (.ins C dx fs)) : ∃ ox od, InstAt s.heap a ox C (some od) := by
  obtain ⟨mA, J, _⟩ := ins_get I.hok e
  obtain ⟨od, J, _⟩ := J.look
  exact ⟨_, od, J⟩
/-- the type of a value, as the model finds it -/
theorem ty_looks {M : Model} {x : V} {u t : Value} (I : Inv X pins σ H s) (rx : RelV x u) (ty : TyX X.K H x t) : Looks M s.heap (typeOf u) t := by
  cases ty with
  | base b =>
    cases b with
    | non => cases (show u = Value.none from rx); exact Looks.of_pure rfl
    | bl y => cases (show u = Value.bool y from rx); exact Looks.of_pure rfl
    | int i => obtain ⟨t, q⟩ := (show ∃ t, u = Value.int i t from rx); cases q; exact Looks.of_pure rfl
    | str y => obtain ⟨t, q⟩ := (show ∃ t, u = Value.str y t from rx); cases q; exact Looks.of_pure rfl
    | flt y => obtain ⟨t, q⟩ := (show ∃ t, u = Value.float y t from rx); cases q; exact Looks.of_pure rfl
    | @lst a xs ea =>
      cases (show u = Value.ref a from rx)
      obtain ⟨_, _, n, _, h1⟩ := (show ObjOk X.prog X.w H s.heap a (.lst xs) from I.hok a _ ea)
      exact (Looks.ld (part := none) h1).andThen .now
    | @frz a ob xs ea =>
      cases (show u = Value.ref a from rx)
      obtain ⟨_, _, _, n, _, h1⟩ := (show ObjOk X.prog X.w H s.heap a (.frz ob (.lst xs)) from I.hok a _ ea)
      exact (Looks.ld (part := none) h1).andThen .now
    | @tup a xs ea =>
      cases (show u = Value.ref a from rx)
      obtain ⟨_, _, _, o, h1, h2, _⟩ := (show ObjOk X.prog X.w H s.heap a (.tup xs) from I.hok a _ ea)
      rw [← h2]
      exact (Looks.ld (part := none) h1).andThen .now
    | @dK a kvs ea =>
      cases (show u = Value.ref a from rx)
      obtain ⟨_, _, vs, _, o, es, ep, h1, h2, _⟩ := (show ObjOk X.prog X.w H s.heap a (.dK kvs) from I.hok a _ ea)
      rw [← h2.1]
      exact (Looks.ld (part := none) h1).andThen .now
    | @dT a kvs ea =>
      cases (show u = Value.ref a from rx)
      obtain ⟨_, _, xs, _, o, es, ep, h1, h2, _⟩ := (show ObjOk X.prog X.w H s.heap a (.dT kvs) from I.hok a _ ea)
      rw [← h2.1]
      exact (Looks.ld (part := none) h1).andThen .now
    | @ins a C dx fs ea cl ha hn htk hm =>
      cases (show u = Value.ref a from rx)
      obtain ⟨ox, od, J⟩ := ins_inst I ea
      exact J.type
  | byt y => obtain ⟨t, q⟩ := (show ∃ t, u = Value.bytes y t from rx); cases q; exact Looks.of_pure rfl
  | @set a S n ea =>
    cases (show u = Value.ref a from rx)
    obtain ⟨o, _, _, _, e, ex, _⟩ := I.hok a _ ea
    rw [← ex.1]
    exact (Looks.ld (part := none) e).andThen .now
  | @kList a o e c =>
    cases (show u = Value.ref a from rx)
    rw [← c]
    exact (Looks.ld (part := none) (I.kIn a o e)).andThen .now
  | @kTuple a o e c =>
    cases (show u = Value.ref a from rx)
    rw [← c]
    exact (Looks.ld (part := none) (I.kIn a o e)).andThen .now
  | @kDict a o e c =>
    cases (show u = Value.ref a from rx)
    rw [← c]
    exact (Looks.ld (part := none) (I.kIn a o e)).andThen .now
  | @fTuple a ob xs ea =>
    cases (show u = Value.ref a from rx)
    obtain ⟨_, _, _, _, o, h1, h2, _⟩ := (show ObjOk X.prog X.w H s.heap a (.frz ob (.tup xs)) from I.hok a _ ea)
    rw [← h2]
    exact (Looks.ld (part := none) h1).andThen .now
  | @fDict a ob kvs ea =>
    cases (show u = Value.ref a from rx)
    obtain ⟨_, _, _, vs, _, o, es, ep, h1, h2, _⟩ := (show ObjOk X.prog X.w H s.heap a (.frz ob (.dK kvs)) from I.hok a _ ea)
    rw [← h2.1]
    exact (Looks.ld (part := none) h1).andThen .now
end
section
variable {X : Cx} {CX : CXT} {k : Nat} {C f : Addr} {fd : FuncData} {ps : List Str} {sp : Sp} {E : XK}
/-- the callee runs, whatever stands between -/
theorem run_at {A : Around} {pins : List (Addr × Obj)} {σ : L2.St} {H : Hp} {s : Shared} {Q : VK} {us : List Value} {vs : List V} (fr : A.frames = X.A.frames) (F : FnOk X.prog X.w X.K X.mg X.base CX k f fd ps sp) (hr : Room k A) (hb : Binds X.K fd ps []) (hx : Passes CX X E)
    (I : Inv X pins σ H s) (r : Vals vs us) (h : sp vs H Q E) : wpAny (model X.prog X.w) A (call (.ref f) us) (EP X pins σ Q) X.xe s := by
  have hl : us.length = ps.length := by rw [← r.length]; exact F.len _ _ _ _ h
  have e0 : Env0 X.prog X.w X.K X.mg X.base A X.stack s H := by
    have e := I.env0
    exact ⟨by rw [fr]; exact e.frames, e.mod, e.bs, e.bsz, e.funs, e.frf, e.hok, e.bare⟩
  refine wpAny_call (codeAny_mono (F.run A X.stack s H ⟨us, []⟩ us vs Q E hr e0 (by
    have := hb s us I.kIn (by simpa using hl)
    simpa using this) r h) fun r s' hq => ?_)
  cases r with
  | error e => exact hx pins σ H s e s' I hq
  | ok fl =>
    cases fl with
    | ret u => exact I.after hq
    | next => exact False.elim hq
    | brk => exact False.elim hq
    | cont => exact False.elim hq
theorem cmp_back {pins : List (Addr × Obj)} {σ : L2.St} {Q : VK} {u : Value} {s' : Shared} (h : EP X pins σ Q u s') : PySem.W.CmpBack (EP X pins σ Q) u s' := by
  obtain ⟨v, H', I, r, q⟩ := h
  cases u <;> first | exact ⟨v, H', I, r, q⟩ | (cases v <;> simp [L2.RelV] at r)
/-- a < b and its like, and a == b, a an instance of the class at C with such a method of its own -/
def rOwn (K : PySem.W.Frag) (C : Addr) (sp : Sp) (E : XK) : R2 := fun x y H Q => ∃ a dx fs t, x = .ref a ∧ H a = some (.ins C dx fs) ∧ TyX K H y t ∧ notFirst K C t = true ∧ sp [x, y] H Q E
theorem op_cmpOwn {op : CmpOp} (hop : ∀ a b, compareOp op a b = richCompare op a b) (F : FnOk X.prog X.w X.K X.mg X.base CX k f fd ps sp) (hr : Room k X.A) (hb : Binds X.K fd ps []) (hx : Passes CX X E)
    (hs : findIn X.K (.ref C) (cmpInfo op).2.1 = some (some (.ref f))) (hf : isFn X.K (.ref f) = true) : OpR X (compareOp op) (rOwn X.K C sp E) := by
  intro pins s σ H x y v u Q I rx ry h
  obtain ⟨a, dx, fs, t, rfl, ea, ty, nf, q⟩ := h
  cases (show v = Value.ref a from rx)
  obtain ⟨ox, od, J⟩ := ins_inst I ea
  obtain ⟨m, hF⟩ := I.fr
  rw [hop]
  refine PySem.W.cmp_K (Nat.lt_of_le_of_lt (Nat.le_add_right _ 1) (hu_of hr)) hF I.ok.mod.kin J (ty_looks I ry ty) nf hs hf ?_
  have rr : Vals [V.ref a, y] [Value.ref a, u] := .cons rfl (.cons ry .nil)
  exact wpAny_mono (run_at rfl F hr hb hx I rr q) (fun _ _ z => cmp_back z) fun _ _ z => z
end
end Ow
namespace Ow
open PySem PySem.Spec PySem.Calls PyProof.Rows L2 PySem.W
open Builtin
section
variable {prog : Program} {w : World} {M : Model} {A : Around} {E : Value → Shared → Prop} {s : Shared} {K : Frag} {x C f : Addr} {ox : Obj} {od : Option Obj} {b tb : Value}
theorem ifBoundB {name : Str} {id : String} {args : List Value} {Q : Option Value → Shared → Prop} (X : K.In s.heap) (I : InstAt s.heap x ox C od) (hs : findIn K (.ref C) name = some (some (.builtin id)))
    (hb : ∀ self, bindSpecial (.builtin id) self = pure (.builtin id, [self])) (h : wpAny M A (call (.builtin id) (.ref x :: args)) (fun v => Q (some v)) E s) : wpAny M A (callSpecialIfBound? (.ref x) name args) Q E s := by
  simp only [callSpecialIfBound?, bindSpecialIfBound?]
  refine wpAny_holding (wpAny_bind (wpAny_bind (wpAny_bind (I.type.here ((looks_findIn X hs).here ?_)))))
  refine wpAny_bind (wpAny_askSetting (wpAny_ite ?_))
  have fin : wpAny M A (call (.builtin id) ([.ref x] ++ args) >>= fun v => pure (some v)) Q E s := wpAny_bind (wpAny_mono h (fun v s' h' => wpAny_pure h') fun _ _ h' => h')
  split
  · exact wpAny_bind ((Looks.of_pure (hb _)).here (wpAny_pure (by exact fin)))
  · exact wpAny_tryCatch (wpAny_bind ((Looks.of_pure (hb _)).here (wpAny_pure (by exact fin))))
theorem ne_K {Q : Value → Shared → Prop} (hu : A.units < cLine) (hu1 : A.in1.units < cLine) (X : K.In s.heap) (I : InstAt s.heap x ox C od) (hb : Looks (model prog w) s.heap (typeOf b) tb) (hn : notFirst K C tb = true) (hm : mroIn K C (.type "object") = some true)
    (hne : findIn K (.ref C) "__ne__" = some (some (.builtin "object.__ne__"))) (hs : findIn K (.ref C) "__eq__" = some (some (.ref f))) (hf : isFn K (.ref f) = true)
    (h : wpAny (model prog w) A.in1 (call (.ref f) [.ref x, b]) (fun v s' => ∃ c, v = .bool c ∧ Q (.bool (!c)) s') E s) : wpAny (model prog w) A (richCompare .NotEq (.ref x) b) Q E s := by
  have one : wpAny (model prog w) A (tryCompare (.ref x) (cmpInfo .NotEq).2.1 b) (fun r s' => ∃ v, r = some v ∧ Q v s') E s := by
    unfold tryCompare
    refine wpAny_bind (ifBoundB X I hne PySem.F.slot_object_ne.bind ?_)
    refine wpAny_call (codeAny_call_builtin PySem.F.slot_object_ne.plain PySem.F.cmpEntry_ne (check_slot (i := "object.__ne__") (owner := "object") (n := "__ne__") (by decide +kernel) (by decide +kernel) (I.type.andThen (looks_mroIn X hm)) (PySem.F.cmpArgs_ne _ _) ?_))
    unfold Builtin.«object.__ne__»
    refine wpAny_bind (m := slotArgs "__ne__" 1 _) (wpAny_pure ?_)
    refine wpAny_bind (m := cRoomFor _ _) (wpAny_cRoomFor hu1 ?_)
    refine wpAny_bind (m := callSpecialIfBound? (.ref x) (Str.ofString "__eq__") _) (ifBound_K X I hs hf (wpAny_mono h (fun r s' hq => ?_) fun _ _ y => y))
    obtain ⟨c, rfl, hq⟩ := hq
    refine wpAny_bind (m := truthy (.bool c)) (wpAny_truthy_bool ?_)
    exact wpAny_pure (wpAny_pure ⟨_, rfl, hq⟩)
  unfold richCompare
  simp only [oneThing_ref]
  refine wpAny_holding (wpAny_bind (wpAny_cRoomFor hu ?_))
  refine wpAny_bind (I.type.here (wpAny_bind (hb.here ?_)))
  split
  · rename_i q
    have e : subIn K tb (.ref C) = some false := by
      rcases Bool.or_eq_true_iff.mp hn with e | e
      · rw [beq_iff_eq.mp e] at q; simp at q
      · exact beq_iff_eq.mp e
    refine wpAny_bind ((looks_subIn X e).here ?_)
    simp only [Bool.false_eq_true, if_false]
    refine wpAny_bind (wpAny_mono one (fun r s' z => ?_) fun _ _ e => e)
    obtain ⟨v, rfl, hq⟩ := z
    exact wpAny_pure hq
  · refine wpAny_bind (wpAny_pure ?_)
    simp only [Bool.false_eq_true, if_false]
    refine wpAny_bind (wpAny_mono one (fun r s' z => ?_) fun _ _ e => e)
    obtain ⟨v, rfl, hq⟩ := z
    exact wpAny_pure hq
end
section
variable {X : Cx} {CX : CXT} {k : Nat} {C f g : Addr} {fd : FuncData} {ps : List Str} {sp : Sp} {E : XK}
/-- a != b, by the own == -/
def rOwnNe (K : PySem.W.Frag) (C : Addr) (sp : Sp) (E : XK) : R2 := fun x y H Q => ∃ a dx fs t, x = .ref a ∧ H a = some (.ins C dx fs) ∧ TyX K H y t ∧ notFirst K C t = true ∧ sp [x, y] H (fun v H' => ∃ c, v = .bl c ∧ Q (.bl (!c)) H') E
theorem op_neOwn (F : FnOk X.prog X.w X.K X.mg X.base CX k f fd ps sp) (hr : Room (k + 1) X.A) (hb : Binds X.K fd ps []) (hx : Passes CX X E) (hm : mroIn X.K C (.type "object") = some true)
    (hne : findIn X.K (.ref C) "__ne__" = some (some (.builtin "object.__ne__"))) (hs : findIn X.K (.ref C) "__eq__" = some (some (.ref f))) (hf : isFn X.K (.ref f) = true) : OpR X (compareOp .NotEq) (rOwnNe X.K C sp E) := by
  intro pins s σ H x y v u Q I rx ry h
  obtain ⟨a, dx, fs, t, rfl, ea, ty, nf, q⟩ := h
  cases (show v = Value.ref a from rx)
  obtain ⟨ox, od, J⟩ := ins_inst I ea
  have rr : Vals [V.ref a, y] [Value.ref a, u] := .cons rfl (.cons ry .nil)
  have hu := hu_of hr
  refine ne_K (Nat.lt_of_le_of_lt (Nat.le_add_right _ 1) hu) (by show X.A.units + 1 < _; exact hu) I.kIn J (ty_looks I ry ty) nf hm hne hs hf ?_
  refine wpAny_mono (run_at (A := X.A.in1) rfl F hr.in1 hb hx I rr q) (fun v' s' z => ?_) fun _ _ z => z
  obtain ⟨w1, H', I', r', c, rfl, q'⟩ := z
  cases (show v' = Value.bool c from r')
  exact ⟨c, rfl, .bl (!c), H', I', rfl, q'⟩
/-- a + b and its like, both of the class at C -/
theorem op_binOwn {op : Operator} (F : FnOk X.prog X.w X.K X.mg X.base CX k f fd ps sp) (hr : Room k X.A) (hb : Binds X.K fd ps []) (hx : Passes CX X E) (hc : selfFirst X.K C = true)
    (hs : findIn X.K (.ref C) (PySem.dunder op.info.2) = some (some (.ref f))) (hf : isFn X.K (.ref f) = true) :
    OpR X (binaryOp op) (fun x y H Q => ∃ a dx fs b dy gs, x = .ref a ∧ H a = some (.ins C dx fs) ∧ y = .ref b ∧ H b = some (.ins C dy gs) ∧ sp [x, y] H Q E) := by
  intro pins s σ H x y v u Q I rx ry h
  obtain ⟨a, dx, fs, b, dy, gs, rfl, ea, rfl, eb, q⟩ := h
  cases (show v = Value.ref a from rx)
  cases (show u = Value.ref b from ry)
  obtain ⟨ox, od, J⟩ := ins_inst I ea
  obtain ⟨oy, od', J'⟩ := ins_inst I eb
  obtain ⟨m, hF⟩ := I.fr
  have rr : Vals [V.ref a, V.ref b] [Value.ref a, Value.ref b] := .cons rfl (.cons rfl .nil)
  refine PySem.W.binop_K hF I.ok.mod.kin J J'.type hc hs hf ?_
  exact wpAny_mono (run_at rfl F hr hb hx I rr q) (fun _ _ z => cmp_back z) fun _ _ z => z
/-- a + n, n of a built-in type -/
theorem op_binOwnT {op : Operator} {T : String} {fo ro rc : Option Value} (F : FnOk X.prog X.w X.K X.mg X.base CX k f fd ps sp) (hr : Room k X.A) (hb : Binds X.K fd ps []) (hx : Passes CX X E) (hc : selfFirst X.K C = true)
    (hs : findIn X.K (.ref C) (PySem.dunder op.info.2) = some (some (.ref f))) (hf : isFn X.K (.ref f) = true) (h2 : findIn X.K (.ref C) (dunderR op.info.2) = some rc) (hp : rc = none ∨ ∃ g : Addr, rc = some (.ref g))
    (h3 : findIn X.K (.type T) (PySem.dunder op.info.2) = some fo) (h4 : findIn X.K (.type T) (dunderR op.info.2) = some ro) (hsub : subIn X.K (.type T) (.ref C) = some false) :
    OpR X (binaryOp op) (fun x y H Q => ∃ a dx fs, x = .ref a ∧ H a = some (.ins C dx fs) ∧ (∀ u, L2.RelV y u → typeOf u = pure (.type T)) ∧ sp [x, y] H Q E) := by
  intro pins s σ H x y v u Q I rx ry h
  obtain ⟨a, dx, fs, rfl, ea, ht, q⟩ := h
  cases (show v = Value.ref a from rx)
  obtain ⟨ox, od, J⟩ := ins_inst I ea
  obtain ⟨m, hF⟩ := I.fr
  have rr : Vals [V.ref a, y] [Value.ref a, u] := .cons rfl (.cons ry .nil)
  refine PySem.W.ksp_binT hF I.ok.mod.kin J (ht u ry) hc hs hf h2 hp h3 h4 hsub ?_
  exact wpAny_mono (run_at rfl F hr hb hx I rr q) (fun _ _ z => cmp_back z) fun _ _ z => z
theorem str_back {pins : List (Addr × Obj)} {σ : L2.St} {Q : VK} {u : Value} {s' : Shared} (h : EP X pins σ (fun v H => ∃ y, v = .str y ∧ Q (.str y) H) u s') : StrBack (EP X pins σ Q) u s' := by
  obtain ⟨v, H', I, r, y, rfl, q⟩ := h
  obtain ⟨t, rfl⟩ := (show ∃ t, u = Value.str y t from r)
  exact ⟨.str y, H', I, ⟨t, rfl⟩, q⟩
/-- repr(a) by the own __repr__ -/
def rOwnS (C : Addr) (sp : Sp) (E : XK) : List V → Hp → VK → Prop := fun xs H Q => ∃ a dx fs, xs = [.ref a] ∧ H a = some (.ins C dx fs) ∧ sp xs H (fun v H' => ∃ y, v = .str y ∧ Q (.str y) H') E
theorem call_reprOwn (F : FnOk X.prog X.w X.K X.mg X.base CX k f fd ps sp) (hr : Room (k + 1) X.A) (hb : Binds X.K fd ps []) (hx : Passes CX X E) (hs : findIn X.K (.ref C) "__repr__" = some (some (.ref f))) (hf : isFn X.K (.ref f) = true) :
    CallR X (.builtin "repr") (rOwnS C sp E) := by
  intro pins s σ H xs us Q I r h
  obtain ⟨a, dx, fs, rfl, ea, q⟩ := h
  obtain ⟨ox, od, J⟩ := ins_inst I ea
  obtain ⟨m, hF⟩ := I.fr
  have rr : Vals [V.ref a] us := r
  cases r with
  | cons r1 rn =>
    cases rn
    cases (show _ = Value.ref a from r1)
    refine PySem.W.repr_K (by have := hu_of hr; exact this) hF I.ok.mod.kin J hs hf ?_
    exact wpAny_mono (run_at (A := X.A.in1) rfl F hr.in1 hb hx I rr q) (fun _ _ z => str_back z) fun _ _ z => z
/-- n + b, n an int, b of the class at C with its own __radd__ -/
theorem op_addIOwn {rc : Option Value} (F : FnOk X.prog X.w X.K X.mg X.base CX k f fd ps sp) (hr : Room k X.A) (hb : Binds X.K fd ps []) (hx : Passes CX X E) (hc : selfFirst X.K C = true)
    (hs : findIn X.K (.ref C) (PySem.dunder "add") = some (some (.ref g))) (hs2 : findIn X.K (.ref C) (dunderR "add") = some (some (.ref f))) (hf : isFn X.K (.ref f) = true) (hsub : subIn X.K (.ref C) (.type "int") = some false) :
    OpR X (binaryOp .Add) (fun x y H Q => ∃ i b dy gs, x = .int i ∧ y = .ref b ∧ H b = some (.ins C dy gs) ∧ sp [y, x] H Q E) := by
  intro pins s σ H x y v u Q I rx ry h
  obtain ⟨i, b, dy, gs, rfl, rfl, eb, q⟩ := h
  obtain ⟨t, rfl⟩ := (show ∃ t, v = Value.int i t from rx)
  cases (show u = Value.ref b from ry)
  obtain ⟨mA, O, _⟩ := ins_get I.hok eb
  obtain ⟨od, J, _⟩ := O.look
  have rr : Vals [V.ref b, V.int i] [Value.ref b, Value.int i t] := .cons rfl (.cons ⟨t, rfl⟩ .nil)
  have X0 := I.kIn
  have one := ksp_try (Q := EP X pins σ Q) X0 J hs2 hf (wpAny_mono (run_at rfl F hr hb hx I rr q) (fun _ _ z => cmp_back z) fun _ _ z => z)
  obtain ⟨cd, rest, hcd, hm⟩ := ksp_first hc
  have Lb : Looks (model X.prog X.w) s.heap (typeOf (.ref b)) (.ref C) := J.type
  have La : Looks (model X.prog X.w) s.heap (typeOf (.int i t)) (.type "int") := Looks.of_pure rfl
  have Lf : Looks (model X.prog X.w) s.heap (fillsNumberSlot (.ref C) "add") true := fills_K X0 hcd hm hs
  have Lg : Looks (model X.prog X.w) s.heap (fillsNumberSlot (.type "int") "add") true := Looks.of_pure PySem.fills_int_add
  have Ls : Looks (model X.prog X.w) s.heap (isSubtype (.ref C) (.type "int")) false := looks_subIn X0 hsub
  have Ln : Looks (model X.prog X.w) s.heap (numberSlotInPython (.type "int") "add") false := Looks.of_pure rfl
  have hne : (Value.type "int" == Value.ref C) = false := Bool.eq_false_iff.mpr fun q => by cases beq_iff_eq.mp q
  have ob := O.obj
  have dec : ∀ {R : Option Value → Shared → Prop}, R none s → wpAny (model X.prog X.w) X.A (tryMethod (.int i t) (PySem.dunder "add") (.ref b)) R X.xe s := by
    intro R hR
    have ob' := ob
    obtain ⟨hh, gg, d, tt, os⟩ := s
    unfold tryMethod
    refine wpAny_bind (wpAny_callSpecial?_slot (T := "int") (typeIs_int _ _ _) PySem.F.slot_int_add ?_)
    refine wpAny_call (codeAny_call_builtin PySem.F.slot_int_add.plain PySem.F.entry_int_add (PySem.F.slot_int_add.check _ _ _ _ _ _ _ _ (typeIs_int _ _ _) (PySem.F.args_int_add_2 _ _) ?_))
    unfold Builtin.«int.__add__» Builtin.Int.intBinary
    refine wpAny_bind (m := slotArgs "__add__" 1 _) (wpAny_pure ?_)
    refine wpAny_bind (m := Builtin.Int.intOfSelf _) (wpAny_bind (wpAny_pure (wpAny_pure ?_)))
    refine wpAny_bind (m := asInt? (.ref b)) (wpAny_bind (wpAny_load ob ?_))
    refine wpAny_pure ?_
    refine wpAny_bind (wpAny_rule ?_)
    exact wpAny_pure (wpAny_pure hR)
  show wpAny (model X.prog X.w) X.A (binaryOp .Add (.int i t) (.ref b)) (EP X pins σ Q) X.xe s
  generalize hR : EP X pins σ Q = R at one
  obtain ⟨hh, gg, d, tt, os⟩ := s
  simp only [binaryOp, Operator.info]
  refine wpAny_holding (wpAny_bind ?_)
  unfold binaryOp1
  refine wpAny_bind (La.at (wpAny_bind (Lb.at (wpAny_bind (Lg.at ?_)))))
  simp only [hne, Bool.false_eq_true, if_false]
  repeat ((fail_if_success (with_reducible show wpAny _ _ (tryMethod _ _ _) _ _ _)); lk)
  refine dec ?_
  repeat ((fail_if_success (with_reducible show wpAny _ _ (tryMethod _ _ _) _ _ _)); lk)
  refine wpAny_mono one (fun r s' hr' => ?_) fun _ _ e => e
  obtain ⟨v, rfl, hq⟩ := hr'
  obtain ⟨hh', gg', d', tt', os'⟩ := s'
  repeat lk
  exact hq
end
end Ow

namespace Ow
open PySem PySem.Spec PyProof.Rows L2
section
variable {X : Cx} {CX : CXT} {k i : Nat} {C f p g : Addr} {mc : Value} {fd : FuncData} {ps : List Str} {sp : Sp} {dvs : List V} {ds : List Value} {E : XK} {x m : Str} {pc pos apos : Pos} {e o : Expr} {es : List Expr} {ta : TE} {t : TA} {pl : Sem Bool}
/-- str(a) by the own __str__ -/
theorem call_strOwn (F : FnOk X.prog X.w X.K X.mg X.base CX k f fd ps sp) (hr : Room (k + 2) X.A) (hb : Binds X.K fd ps []) (hx : Passes CX X E) (hs : PySem.W.findIn X.K (.ref C) "__str__" = some (some (.ref f))) (hf : PySem.W.isFn X.K (.ref f) = true) :
    CallR X (.type "str") (rOwnS C sp E) := by
  intro pins s σ H xs us Q I r h
  obtain ⟨a, dx, fs, rfl, ea, q⟩ := h
  obtain ⟨ox, od, J⟩ := ins_inst I ea
  have rr : Vals [V.ref a] us := r
  cases r with
  | cons r1 rn =>
    cases rn
    cases (show _ = Value.ref a from r1)
    refine PySem.W.kso_call (by have := hr.un; show X.A.units + 1 + 1 < _; omega) I.kIn J hs hf ?_
    exact wpAny_mono (run_at (A := X.A.in1.in1) rfl F hr.in1.in1 hb hx I rr q) (fun _ _ z => str_back z) fun _ _ z => z
/-- cls(e, ..), the class at C in the i-th slot -/
def tMakeL (i : Nat) (C : Addr) (sp : Sp) (dvs : List V) (E : XK) (t : TA) : TE := fun σ H Q => σ[i]? = some (some (.ref C)) ∧ tMake C sp dvs E t σ H Q
theorem pe_makeL (M : Mk X.K C f) (F : FnOk X.prog X.w X.K X.mg X.base CX k f fd ps sp) (hr : Room (k + 1) X.A) (hN : X.N[i]? = some x) (hv : Vis X.env.scope x) (hb : Binds X.K fd ps ds) (hd : Vals dvs ds) (hx : Passes CX X E) (ha : PA X (e :: es) t)
    (hdb : (x == ("__debug__" : Str)) = false := by decide) (hcd : (x == ("__classdict__" : Str)) = false := by decide) (he : starEach (e :: es) X.env = (false, eval e X.env) :: starEach es X.env := by rfl)
    (hpl : (backTo pos (starEach es X.env)).any (·.1) = false := by rfl) : PE X (.Call (.Name x pc) (e :: es) [] pos) (tMakeL i C sp dvs E t) := by
  refine ⟨fun pins s σ H Q I ⟨hs, ht⟩ => ?_⟩
  have nm := (pe_var (X := X) (pos := pc) hN hv hdb hcd).run pins s σ H (fun v H1 => v = .ref C ∧ H1 = H) I ⟨.ref C, hs, rfl, rfl⟩
  refine wpAny_Call_Name_kw (thn nm fun u s1 ⟨v, H1, I1, r1, q1⟩ => ?_)
  obtain ⟨rfl, rfl⟩ := q1
  cases r1
  refine PySem.W.callWith_K (h₀ := X.base) I.ok.mod.kin M.kp (thn (ha.run pos pins s1 σ _ _ I1 ht) fun us s2 ⟨vs, H2, I2, r, q⟩ => ⟨I2.kIn, ?_⟩) he hpl
  exact run_make M F hr hb hd hx I2 r q
/-- e.m(), e the class at C, m a classmethod of it -/
theorem pe_cmeth0 (he : PE X o ta) (r : ClX.CRead X.K C mc) (c : ClX.CMet X.K C mc m p g) (F : FnR X.prog X.w X.K X.mg X.base CX k g sp) (hr : Room k X.A) (hx : Passes CX X E)
    (ht : eval (.Call (.Attribute o m apos) [] [] pos) X.env = (do
      let ov ← eval o X.env
      standAt apos.atName
      let (fv, fst) ← holding [ov] (getMethod ov m pl)
      callWith pos fv fst (backTo pos (starEach [] X.env)) (backToKw pos (keywordEach [] X.env))) := by rfl) :
    PE X (.Call (.Attribute o m apos) [] [] pos) (ClX.tCMeth C sp E ta tNil) := by
  refine ⟨fun pins s σ H Q I h => ?_⟩
  refine PySem.W.methodCall_KW (pl := pl) (thn (he.run pins s σ H _ I h) fun u s1 ⟨x, H1, I1, rx, ex, q⟩ => ?_) ht
  subst ex
  obtain rfl : u = Value.ref C := rx
  refine ClX.getmethcm_ok I1 r c fun s2 I2 => ?_
  exact PySem.W.callWith_M0 (K := X.K) (first := []) ⟨ClX.pin_at I2, I2.kIn⟩ c.fi (ClX.run_cm (us := []) (vs := []) F hr hx I2 .nil q)
end
end Ow

/-! pairs of whole numbers in order: all four signs -/
namespace Ow
open PySem PySem.Spec PyProof.Rows L2
/-- what a sign says of two pairs, by what it says of two numbers -/
def pairRel (r : Int → Int → Bool) (a b c d : Int) : Bool := if a = c then r b d else r a c
def rPair (K : PySem.W.Frag) (r : Int → Int → Bool) : R2 := fun x y H Q => ∃ (p q : Addr) (a b c d : Int), x = .ref p ∧ y = .ref q ∧ SqT K H p [.int a, .int b] ∧ SqT K H q [.int c, .int d] ∧ Q (.bl (pairRel r a b c d)) H
theorem pair_at {u v : Value} {its : List Value} {b : Int} {a : Int} (r : Vals [V.int a, V.int b] its) : ∃ t t', its = [Value.int a t, Value.int b t'] := by
  cases r with
  | cons r1 r =>
    cases r with
    | cons r2 r =>
      cases r
      obtain ⟨t, rfl⟩ := r1
      obtain ⟨t', rfl⟩ := r2
      exact ⟨t, t', rfl⟩
section
variable {X : Cx}
theorem op_pair {op : CmpOp} {r : Int → Int → Bool} (hd : ∀ i : Int, r i i = r 0 0) (hop : ∀ a b, compareOp op a b = richCompare op a b)
    (hI : ∀ (A : Around) (s : Shared) (i j : Int) (t u : Tok), Ob.RcOp op A s (.int i t) (.int j u) (r i j))
    (hT : ∀ {A : Around} {s : Shared} {l b : Addr} {items items2 : Array Value} {e f : Nat → Bool}, s.heap.IsTuple l items → s.heap.IsTuple b items2 → A.units < cLine → items.size = 2 → items2.size = 2 →
      (∀ j (h1 : j < items.size) (h2 : j < items2.size), SeqAt.EqAt A.in1 s items[j] items2[j] (e j)) → (∀ j (h1 : j < items.size) (h2 : j < items2.size), e j = false → Ob.RcOp op A.in1 s items[j] items2[j] (f j)) →
      Ob.RcOp op A s (.ref l) (.ref b) (Ob.lexAt e f (r 0 0) 0 2)) (hu : X.A.units < cLine) : OpR X (compareOp op) (rPair X.K r) := by
  intro pins s σ H x y v u Q I rx ry h
  obtain ⟨p, q, a, b, c, d, rfl, rfl, hp, hq, k⟩ := h
  cases (show v = Value.ref p from rx)
  cases (show u = Value.ref q from ry)
  obtain ⟨its, r1, p1, _⟩ := I.tuple hp
  obtain ⟨its2, r2, p2, _⟩ := I.tuple hq
  obtain ⟨t1, t2, rfl⟩ := pair_at (u := .none) (v := .none) r1
  obtain ⟨t3, t4, rfl⟩ := pair_at (u := .none) (v := .none) r2
  have R := hT (A := X.A) (s := s) (e := fun j => if j = 0 then decide (a = c) else decide (b = d)) (f := fun j => if j = 0 then r a c else r b d) p1 p2 hu rfl rfl
    (fun j h1 h2 => by
      have hj : j < 2 := h1
      rcases (by omega : j = 0 ∨ j = 1) with rfl | rfl
      · have z : (a == c) = decide (a = c) := by by_cases q : a = c <;> simp [q]
        show SeqAt.EqAt X.A.in1 s (Value.int a t1) (Value.int c t3) (decide (a = c))
        rw [← z]
        exact SeqAt.EqAt.int_int _ _ _ _
      · have z : (b == d) = decide (b = d) := by by_cases q : b = d <;> simp [q]
        show SeqAt.EqAt X.A.in1 s (Value.int b t2) (Value.int d t4) (decide (b = d))
        rw [← z]
        exact SeqAt.EqAt.int_int _ _ _ _)
    (fun j h1 h2 _ => by
      have hj : j < 2 := h1
      rcases (by omega : j = 0 ∨ j = 1) with rfl | rfl
      · exact hI _ _ a c t1 t3
      · exact hI _ _ b d t2 t4)
  have z : wpAny (model X.prog X.w) X.A (richCompare op (.ref p) (.ref q)) (EP X pins σ Q) X.xe s := by
    refine R X.prog X.w X.xe (EP X pins σ Q) ⟨.bl _, H, I, rfl, ?_⟩
    have e : Ob.lexAt (fun j => if j = 0 then decide (a = c) else decide (b = d)) (fun j => if j = 0 then r a c else r b d) (r 0 0) 0 2 = pairRel r a b c d := by
      unfold pairRel
      simp only [Ob.lexAt]
      by_cases h1 : a = c
      · by_cases h2 : b = d
        · simp [h1, h2, hd]
        · simp [h1, h2]
      · simp [h1]
    rw [e]
    exact k
  rw [hop]
  exact z
theorem op_ltP (hu : X.A.units < cLine) : OpR X (compareOp .Lt) (rPair X.K fun i j => decide (i < j)) :=
  op_pair (by simp) (fun _ _ => rfl) (fun _ _ i j t u => Ob.RcOp.lt_int i j t u) (fun hl hb hu z1 z2 he hr => by have R := Ob.RcOp.tuples_lt hl hb hu he hr; rw [z1, z2] at R; exact R) hu
theorem op_leP (hu : X.A.units < cLine) : OpR X (compareOp .LtE) (rPair X.K fun i j => decide (i ≤ j)) :=
  op_pair (by simp) (fun _ _ => rfl) (fun _ _ i j t u => Ob.RcOp.le_int i j t u) (fun hl hb hu z1 z2 he hr => by have R := Ob.RcOp.tuples_le hl hb hu he hr; rw [z1, z2] at R; exact R) hu
theorem op_gtP (hu : X.A.units < cLine) : OpR X (compareOp .Gt) (rPair X.K fun i j => decide (j < i)) :=
  op_pair (by simp) (fun _ _ => rfl) (fun _ _ i j t u => Ob.RcOp.gt_int i j t u) (fun hl hb hu z1 z2 he hr => by have R := Ob.RcOp.tuples_gt hl hb hu he hr; rw [z1, z2] at R; exact R) hu
theorem op_geP (hu : X.A.units < cLine) : OpR X (compareOp .GtE) (rPair X.K fun i j => decide (j ≤ i)) :=
  op_pair (by simp) (fun _ _ => rfl) (fun _ _ i j t u => Ob.RcOp.ge_int i j t u) (fun hl hb hu z1 z2 he hr => by have R := Ob.RcOp.tuples_ge hl hb hu he hr; rw [z1, z2] at R; exact R) hu
end
end Ow

/-! the end of a law whose own def may show lists: nothing around it is showing itself -/
namespace Ow
open PySem PySem.Spec PyProof.Rows L2
section
variable {P : Program} {w : World} {K : PySem.W.Frag} {mg mb : Str → Option Value}
/-- the call, from one abstract heap H that tracks nothing but the script at a -/
theorem call_from {k : Nat} {fa a : Addr} {fd : FuncData} {x : Str} {sp : Sp} {s1 : Shared} {H : Hp} {oa : Obj} {es : Array Value} {ep : Nat} (ea : s1.heap.get? a = some oa) (da : oa.data = .seq es ep)
    (kIn : K.In s1.heap) (ns : s1.heap.Ns mainGlobals mg) (nb : s1.heap.Ns builtinsNs mb) (bb : ∀ y : Str, y ≠ "__name__" → mb y = bootBuiltins y) (lim : s1.heap.NoLimit) (hg : s1.gens = #[]) (hr : Room k callerA)
    (F : ∀ base : Heap, K.In base → base.Ns mainGlobals mg → FnOkG P w K mg base CX0 k fa fd [x] sp) (hbind : ∀ (s : Shared) (u : Value), BindsTo s fd ⟨[u], []⟩ [(x, u)])
    (only : Only H) (hok : HOk P w H s1.heap) (alone : ∀ b, H b ≠ none → b = a) (noK : H a ≠ none → K.lookup a = none) (hsp : sp [.ref a] H (fun v _ => v = .bl true) fun _ _ _ => False) :
    codeAny (model P w) callerA (.call (.ref fa) ⟨[.ref a], []⟩) (fun r s' => r = .ok (.ret (.bool true)) ∧ OldK s1.heap s'.heap ∧ s'.os = s1.os ∧ AllBare s'.gens) s1 := by
  have free : ∀ b, b ≠ a → H b = none := fun b hb => by
    cases q : H b with
    | none => rfl
    | some u => exact absurd (alone b (by simp [q])) hb
  have unseq : ∀ {b : Addr} {m : Str → Option Value}, s1.heap.Ns b m → b ≠ a := fun {b m} ⟨o, is, ip, e, d, _⟩ z => by
    subst z
    cases ea.symm.trans e
    cases da.symm.trans d
  have same : ∀ {b : Addr} {m : Str → Option Value}, s1.heap.Ns b m → (hidT s1.heap H).Ns b m := fun {b m} z => by
    have hb := unseq z
    obtain ⟨o, is, ip, e, r⟩ := z
    exact ⟨o, is, ip, hidT_get e (free b hb), r⟩
  have kB : K.In (hidT s1.heap H) := fun b o e => by
    refine hidT_get (kIn b o e) ?_
    by_cases hb : b = a
    · cases q : H b with
      | none => rfl
      | some u => subst hb; rw [noK (by simp [q])] at e; cases e
    · exact free b hb
  have limB : (hidT s1.heap H).NoLimit := by
    obtain ⟨mc, h1, h2⟩ := lim
    exact ⟨mc, same h1, h2⟩
  have md : Mod K mg (hidT s1.heap H) := { kin := kB, glob := same ns, blt := ⟨mb, same nb, bb⟩, nolimit := limB }
  have e0 : Env0 P w K mg (hidT s1.heap H) callerA [] s1 H :=
    { frames := rfl, mod := md, bs := fun b o e => of_hidT e, bsz := Nat.le_of_eq (hidT_size _ _), funs := trivial, frf := fun b hb => (List.not_mem_nil hb).elim, hok := hok, bare := .of_eq hg }
  have run := (F _ kB (same ns)).go callerA [] s1 H ⟨[.ref a], []⟩ [.ref a] [.ref a] _ _ rfl hr e0 (hbind s1 (.ref a)) (.cons rfl .nil) hsp
  refine codeAny_mono run fun r s' h => ?_
  match r, h with
  | .error e, h => exact h.elim
  | .ok .next, h => exact h.elim
  | .ok .brk, h => exact h.elim
  | .ok .cont, h => exact h.elim
  | .ok (.ret u), ⟨v, H', os, bare, un, hok', rv, q⟩ =>
    cases (show v = .bl true from q)
    cases (show u = Value.bool true from rv)
    refine ⟨rfl, OldK.of_keep fun b o e => ?_, os, bare⟩
    rcases only b with z | ⟨ob, xs, z⟩
    · exact un.keep b o e z (fun y => (List.not_mem_nil y).elim) List.not_mem_nil
    · obtain ⟨e1, _⟩ := hok b _ z
      obtain ⟨e2, _⟩ := hok' b _ (un.frzs b ob _ z)
      cases e.symm.trans e1
      exact e2
theorem call_G {k : Nat} {fa a : Addr} {fd : FuncData} {x : Str} {sp : Sp} {s1 : Shared} {vs : List Value} {ns : List Int} (kIn : K.In s1.heap) (hn : s1.heap.Ns mainGlobals mg) (nb : s1.heap.Ns builtinsNs mb)
    (bb : ∀ y : Str, y ≠ "__name__" → mb y = bootBuiltins y) (lim : s1.heap.NoLimit) (hg : s1.gens = #[]) (ha : s1.heap.get? a = some { cls := .type "list", data := .seq vs.toArray }) (hi : IntsAre vs ns) (hl : ns.length ≤ sizeLine) (hr : Room k callerA)
    (F : ∀ base : Heap, K.In base → base.Ns mainGlobals mg → FnOkG P w K mg base CX0 k fa fd [x] sp) (hbind : ∀ (s : Shared) (u : Value), BindsTo s fd ⟨[u], []⟩ [(x, u)])
    (hsp : ∀ H : Hp, Only H → SqL K H a (ns.map V.int) → sp [.ref a] H (fun v _ => v = .bl true) fun _ _ _ => False) :
    codeAny (model P w) callerA (.call (.ref fa) ⟨[.ref a], []⟩) (fun r s' => r = .ok (.ret (.bool true)) ∧ OldK s1.heap s'.heap ∧ s'.os = s1.os ∧ AllBare s'.gens) s1 := by
  have rv := vals_ints hi
  cases hk : K.lookup a with
  | some o =>
    cases ha.symm.trans (kIn a o hk)
    have on : Only (fun _ => none) := fun _ => .inl rfl
    exact call_from ha rfl kIn hn nb bb lim hg hr F hbind on (fun b u z => nomatch z) (fun b z => absurd rfl z) (fun z => absurd rfl z) (hsp _ on (.inr ⟨_, vs.toArray, _, hk, rfl, rfl, rfl, by rw [List.size_toArray, hi.length]; exact hl, by simpa using rv⟩))
  | none =>
    let H : Hp := upd (fun _ => none) a (.frz { cls := .type "list", data := .seq vs.toArray } (.lst (ns.map V.int)))
    have at_ : H a = some (.frz { cls := .type "list", data := .seq vs.toArray } (.lst (ns.map V.int))) := upd_same
    have off : ∀ b, b ≠ a → H b = none := fun b hb => upd_ne hb
    have on : Only H := fun b => by
      by_cases hb : b = a
      · subst hb; exact .inr ⟨_, _, at_⟩
      · exact .inl (off b hb)
    refine call_from ha rfl kIn hn nb bb lim hg hr F hbind on (fun b u z => ?_) (fun b z => ?_) (fun _ => hk) (hsp _ on (.inl (.inr ⟨_, at_⟩)))
    · by_cases hb : b = a
      · subst hb
        cases at_.symm.trans z
        exact ⟨ha, by rw [List.length_map]; exact hl, vs, _, rv, ha⟩
      · cases (off b hb).symm.trans z
    · by_cases hb : b = a
      · exact hb
      · exact absurd (off b hb) z
end
theorem walk_G {l : PySem.W.OpenLaw} {n k : Nat} {q : Program} {loose : List Str} {XP : (Str → Option Value) → Heap → Prop} {YP : World → Heap → Prop} {d : DefRec} {K : Params → PySem.W.Frag} {sp : World → Sp} {x : Str}
    (hn : l.most = some n) (hn2 : n ≤ sizeLine) (hdf : d.params.defaults = []) (hr : Room k callerA) (hY : ∀ (w : World) (h : Heap), YP w h → (K w.params).In h)
    (F : ∀ (w : World) (mg : Str → Option Value) (fa : Addr) (h : Heap), (K w.params).In h → h.Ns mainGlobals mg → mg d.name = some (.ref fa) →
      ∃ fd : FuncData, (∀ (s : Shared) (u : Value), BindsTo s fd ⟨[u], []⟩ [(x, u)]) ∧ ∀ base : Heap, (K w.params).In base → base.Ns mainGlobals mg → FnOkG l.prog w (K w.params) mg base CX0 k fa fd [x] (sp w))
    (hsp : ∀ (w : World) (H : Hp) (a : Addr) (ns : List Int), ns.length ≤ n → SqL (K w.params) H a (ns.map V.int) → sp w [.ref a] H (fun v _ => v = .bl true) fun _ _ _ => False) :
    PySem.W.WalkO q loose XP YP l.row.toRowW d [] (fun f vs => PySem.call f vs) := by
  refine Att.attach_call hn hdf fun w s0 s1 mg mb fa o pm cd doc a vs ns G Y ho hd hcd hmg hobj hints hlen hg => ?_
  have kx := hY w _ Y
  obtain ⟨fd, hb, hF⟩ := F w mg fa _ kx G.T.g hmg
  exact call_G kx G.T.g G.T.b G.T.builtins G.T.nolimit hg hobj hints (Nat.le_trans hlen hn2) hr hF hb fun H _ hS => hsp w H a ns hlen hS
end Ow

namespace Ow
open PySem PySem.Spec PyProof.Rows L2 ClX
/-- C.m is a staticmethod: its record at p, its def at g -/
structure SMet (K : PySem.W.Frag) (C : Addr) (mc : Value) (m : Str) (p g : Addr) : Prop where
  at_ : PySem.W.findCls K (.ref C) mc m = some (.get (.builtin "staticmethod.__get__") (.ref p) .none (.ref C))
  rc : ∃ rest, PySem.W.recIn K p "staticmethod" = some (.ref g :: rest)
  kp : PySem.W.keepIn K (.ref g) = true
/-- .. reached through an instance of C -/
structure SInst (K : PySem.W.Frag) (C : Addr) (m : Str) (p g : Addr) : Prop where
  pg : PySem.W.plainGet K C Str.empty = true
  ic : PySem.W.isClsIn K C = true
  at_ : PySem.W.findIn K (.ref C) m = some (some (.ref p))
  ty : PySem.W.typeIn K (.ref p) = some (.type "staticmethod")
  get : PySem.W.specialIn K (.ref p) "__get__" = some (some (.builtin "staticmethod.__get__"))
  tk : PySem.W.takesIn K (.ref p) = some false
  cp : PySem.W.copiedNames.contains m = false
  rc : ∃ rest, PySem.W.recIn K p "staticmethod" = some (.ref g :: rest)
  kp : PySem.W.keepIn K (.ref g) = true
theorem SInst.pgm {K : PySem.W.Frag} {C p g : Addr} {m : Str} (k : SInst K C m p g) : PySem.W.plainGet K C m = true := k.pg
section
variable {X : Cx} {pins : List (Addr × Obj)} {σ : L2.St} {H : Hp} {s : Shared} {a C p g : Addr} {mc : Value} {m : Str} {A : Around} {E : Value → Shared → Prop} {pl : Sem Bool} {Q : Value × List Value → Shared → Prop}
theorem getsm_ok (I : Inv X pins σ H s) (r : CRead X.K C mc) (k : SMet X.K C mc m p g) (h : ∀ s', Inv X pins σ H s' → Q (.ref g, []) s') : wpAny (model X.prog X.w) A (getMethod (.ref C) m pl) Q E s := by
  obtain ⟨rest, hp⟩ := k.rc
  refine PySem.W.method_cls I.kIn r.ga (PySem.W.cls_bind I.kIn r.rd k.at_ ?_)
  exact wpAny_call (PySem.W.sm_get (s := { s with toks := s.toks + 1 }) I.kIn hp (PySem.W.handed_on rfl (h _ (I.tok _))))
theorem getsim_ok {ox od : Obj} (I : Inv X pins σ H s) (J : PySem.W.InstAt s.heap a ox C (some od)) (hl : PySem.W.lookIn m od = some none) (k : SInst X.K C m p g) (h : ∀ s', Inv X pins σ H s' → Q (.ref g, []) s') :
    wpAny (model X.prog X.w) A (getMethod (.ref a) m pl) Q E s := by
  obtain ⟨rest, hp⟩ := k.rc
  have pgm := PySem.W.plainGet_of k.pgm
  refine PySem.W.method_usual (r := some (.ref p)) I.kIn J pgm.1 pgm.2 k.at_ ?_ ?_
  · have e := k.ty
    show ((PySem.W.typeIn X.K (.ref p)).any fun t => t != .type "function" && t != .type "method_descriptor" && t != .type "wrapper_descriptor") = true
    rw [e]
    first | rfl | decide +kernel
  · refine PySem.W.get_bind I.kIn J pgm.1 (find_cm k.ic k.at_ k.get k.tk k.cp hl) pgm.2 ?_
    exact wpAny_call (PySem.W.sm_get (s := { s with toks := s.toks + 1 }) I.kIn hp (PySem.W.handed_on rfl (h _ (I.tok _))))
end
section
variable {X : Cx} {CX : CXT} {k : Nat} {C p g : Addr} {mc : Value} {sp : Sp} {E : XK} {o e : Expr} {es : List Expr} {m : Str} {pos apos : Pos} {ta : TE} {t : TA} {pl : Sem Bool}
theorem run_R {pins : List (Addr × Obj)} {σ : L2.St} {H : Hp} {s : Shared} {Q : VK} {us : List Value} {vs : List V} (F : FnR X.prog X.w X.K X.mg X.base CX k g sp) (hr : Room k X.A) (hx : Passes CX X E) (I : Inv X pins σ H s) (r : Vals vs us) (h : sp vs H Q E) :
    wpAny (model X.prog X.w) X.A (call (.ref g) us) (EP X pins σ Q) X.xe s := wpAny_call (run_fnR F hr hx I r h)
/-- e.m(..), e the class at C, m a staticmethod of it -/
def tSMeth (C : Addr) (sp : Sp) (E : XK) (ta : TE) (t : TA) : TE := fun σ H Q => ta σ H fun x H1 => x = .ref C ∧ t σ H1 fun vs H2 => sp vs H2 Q E
theorem pe_smeth (he : PE X o ta) (r : CRead X.K C mc) (c : SMet X.K C mc m p g) (F : FnR X.prog X.w X.K X.mg X.base CX k g sp) (hr : Room k X.A) (hx : Passes CX X E) (ha : PA X (e :: es) t)
    (hst : starEach (e :: es) X.env = (false, eval e X.env) :: starEach es X.env := by rfl) (hpl : (backTo pos (starEach es X.env)).any (·.1) = false := by rfl)
    (ht : eval (.Call (.Attribute o m apos) (e :: es) [] pos) X.env = (do
      let ov ← eval o X.env
      standAt apos.atName
      let (fv, fst) ← holding [ov] (getMethod ov m pl)
      callWith pos fv fst (backTo pos (starEach (e :: es) X.env)) (backToKw pos (keywordEach [] X.env))) := by rfl) :
    PE X (.Call (.Attribute o m apos) (e :: es) [] pos) (tSMeth C sp E ta t) := by
  refine ⟨fun pins s σ H Q I h => ?_⟩
  refine PySem.W.methodCall_KW (pl := pl) (thn (he.run pins s σ H _ I h) fun u s1 ⟨x, H1, I1, rx, ex, q⟩ => ?_) ht
  subst ex
  cases (show u = Value.ref C from rx)
  refine getsm_ok I1 r c fun s2 I2 => ?_
  exact PySem.W.callWith_K (h₀ := X.base) (first := []) I.ok.mod.kin c.kp (thn (ha.run pos pins s2 σ H1 _ I2 q) fun us s3 ⟨vs, H2, I3, rv, q2⟩ => ⟨I3.kIn, run_R F hr hx I3 rv q2⟩) hst hpl
/-- .. through an instance -/
def tSMethI (C : Addr) (m : Str) (sp : Sp) (E : XK) (ta : TE) (t : TA) : TE := fun σ H Q => ta σ H fun x H1 => ∃ a dx fs, x = .ref a ∧ H1 a = some (.ins C dx fs) ∧ fs.lookup m = none ∧ t σ H1 fun vs H2 => sp vs H2 Q E
theorem pe_smethI (he : PE X o ta) (c : SInst X.K C m p g) (F : FnR X.prog X.w X.K X.mg X.base CX k g sp) (hr : Room k X.A) (hx : Passes CX X E) (ha : PA X (e :: es) t)
    (hst : starEach (e :: es) X.env = (false, eval e X.env) :: starEach es X.env := by rfl) (hpl : (backTo pos (starEach es X.env)).any (·.1) = false := by rfl)
    (ht : eval (.Call (.Attribute o m apos) (e :: es) [] pos) X.env = (do
      let ov ← eval o X.env
      standAt apos.atName
      let (fv, fst) ← holding [ov] (getMethod ov m pl)
      callWith pos fv fst (backTo pos (starEach (e :: es) X.env)) (backToKw pos (keywordEach [] X.env))) := by rfl) :
    PE X (.Call (.Attribute o m apos) (e :: es) [] pos) (tSMethI C m sp E ta t) := by
  refine ⟨fun pins s σ H Q I h => ?_⟩
  refine PySem.W.methodCall_KW (pl := pl) (thn (he.run pins s σ H _ I h) fun u s1 ⟨x, H1, I1, rx, a, dx, fs, ex, ea, l, q⟩ => ?_) ht
  subst ex
  cases (show u = Value.ref a from rx)
  obtain ⟨mA, O, rr, _⟩ := ins_get I1.hok ea
  have hn : mA m = none := RelO.none_of (by rw [← l]; exact rr m)
  obtain ⟨od, J, hl⟩ := O.look
  refine getsim_ok I1 J (by rw [hl m, hn]) c fun s2 I2 => ?_
  exact PySem.W.callWith_K (h₀ := X.base) (first := []) I.ok.mod.kin c.kp (thn (ha.run pos pins s2 σ H1 _ I2 q) fun us s3 ⟨vs, H2, I3, rv, q2⟩ => ⟨I3.kIn, run_R F hr hx I3 rv q2⟩) hst hpl
end
end Ow

/-! two lists of unlike lengths are not equal, whatever they hold -/
namespace Ow
open PySem PySem.SeqAt
open AutoSeq1 (wpAny_loadPart')
open MeetsSeq MeetsSeq2 MeetsSeq3 SeqRoads2
open PySem.Spec PyProof.Rows L2
theorem list_eq_len {prog : Program} {w : World} {A : Around} {R : Result → Shared → Prop} {l b : Addr} {items items2 : Array Value} {n n2 : Nat} {s : Shared} (hl1 : s.heap.get? l = some { cls := .type "list", data := .seq items n })
    (hb1 : s.heap.get? b = some { cls := .type "list", data := .seq items2 n2 }) (hne : items.size ≠ items2.size) (fin : R (.ok (.ret (.bool false))) s) :
    wpAny (model prog w) A.in1 (Builtin.«list.__eq__» ⟨[.ref l, .ref b], []⟩) (GQ.FinOf prog w A R) (fun e s' => R (.error e) s') s := by
  obtain ⟨hp, g, d, tk, os⟩ := s
  have f3 := AutoSeq1.sub_list_list
  have hne' : (items.size != items2.size) = true := by simp [hne]
  wp_walk using wpAny_loadPart' hl1, wpAny_loadPart' hb1
  all_goals first | exact fin | (simp [hne]; done) | skip
section
variable {X : Cx} {k : Nat}
theorem op_eqLen (hr : Room k X.A) : OpR X (compareOp .Eq) (fun x y H Q => ∃ a b xs ys, x = .ref a ∧ y = .ref b ∧ H a = some (.lst xs) ∧ H b = some (.lst ys) ∧ xs.length ≠ ys.length ∧ Q (.bl false) H) := by
  intro pins s σ H x y v u Q I rx ry h
  obtain ⟨a, b, xs, ys, rfl, rfl, ha, hb, hne, q⟩ := h
  cases (show v = Value.ref a from rx)
  cases (show u = Value.ref b from ry)
  obtain ⟨z, its, n, r, e⟩ := I.hok a _ ha
  obtain ⟨z2, its2, n2, r2, e2⟩ := I.hok b _ hb
  show wpAny (model X.prog X.w) X.A (richCompare .Eq (.ref a) (.ref b)) (EP X pins σ Q) X.xe s
  have hu := hr.units0
  refine wpAny_richCompare_same_room (op := .Eq) ⟨_, e, rfl⟩ ⟨_, e2, rfl⟩ F.slot_list_eq (GQ.call_here F.slot_list_eq ⟨_, e, rfl⟩ F.entry_list_eq (F.args_list_eq_2 _ _) ?_) hu
  refine list_eq_len (R := wants (fun v s' => v ≠ .notImplemented ∧ EP X pins σ Q v s') X.xe) e e2 ?_ ⟨(fun x => nomatch x), .bl false, H, I, rfl, q⟩
  rw [List.size_toArray, List.size_toArray, ← r.length, ← r2.length]
  exact hne
end
end Ow

namespace Tg
open PySem L2 Ow
def top (i : Nat) : Stmt := PySem.Challenge.pw_towgrove_k03_whole_sums_and_least_length.main.body.getD i (.Pass ⟨0, 0, 0, 0⟩)
abbrev sLI : Stmt := inClass (top 1) 0
abbrev sLFree : Stmt := inClass (top 1) 1
abbrev sLNum : Stmt := inClass (top 1) 3
abbrev sLIsF : Stmt := inClass (top 1) 4
abbrev sLAdd : Stmt := inClass (top 1) 5
abbrev sLRadd : Stmt := inClass (top 1) 6
abbrev sLLt : Stmt := inClass (top 1) 7
abbrev sLLe : Stmt := inClass (top 1) 8
abbrev sLGt : Stmt := inClass (top 1) 9
abbrev sLGe : Stmt := inClass (top 1) 10
abbrev sLEq : Stmt := inClass (top 1) 11
abbrev sLStr : Stmt := inClass (top 1) 12
abbrev sLRepr : Stmt := inClass (top 1) 13
/-! ### a length as the heap holds it -/
abbrev Nm := Option Int
def nV : Nm → V
  | none => .non
  | some i => .int i
def rkV : Nm → List V
  | none => [.int 1, .int 0]
  | some i => [.int 0, .int i]
def lenF (n : Nm) (r : Addr) : List (Str × V) := putF "_rank" (.ref r) (putF "_number" (nV n) [])
theorem kNR : ¬ (("_number" : Str) = "_rank") := by decide +kernel
theorem lenF_num (n : Nm) (r : Addr) : (lenF n r).lookup ("_number" : Str) = some (nV n) := by
  unfold lenF
  rw [lookup_putF, if_neg kNR, lookup_putF, if_pos rfl]
theorem lenF_rank (n : Nm) (r : Addr) : (lenF n r).lookup ("_rank" : Str) = some (.ref r) := by
  unfold lenF
  rw [lookup_putF, if_pos rfl]
theorem lenF_no (n : Nm) (r : Addr) {m : Str} (h1 : ¬ m = "_rank") (h2 : ¬ m = "_number") : (lenF n r).lookup m = none := by
  unfold lenF
  rw [lookup_putF, if_neg h1, lookup_putF, if_neg h2]
  all_goals rfl
/-- the length at p has the number n -/
def LenAt (C : Addr) (H : Hp) (p : Addr) (n : Nm) : Prop := ∃ dx r, H p = some (.ins C dx (lenF n r)) ∧ H r = some (.tup (rkV n))
theorem LenAt.same {C : Addr} {H H' : Hp} {p : Addr} {n : Nm} (h : LenAt C H p n) (s : Same H H') : LenAt C H' p n := by
  obtain ⟨dx, r, h1, h2⟩ := h
  exact ⟨dx, r, s _ _ h1, s _ _ h2⟩
/-- what the text says of the class -/
structure LenTxt (K : PySem.W.Frag) (mg : Str → Option Value) (C : Addr) : Prop where
  cl : Cls K C
  nN : NoAttr K C "_number"
  nR : NoAttr K C "_rank"
  gC : mg "Length" = some (.ref C)
  b_isinstance : mg "isinstance" = none
  b_int : mg "int" = none
  b_bool : mg "bool" = none
  b_str : mg "str" = none
  hc : PySem.W.findIn K (.ref C) "__class__" = some (some (.builtin "object.__class__"))
  hn : PySem.W.specialIn K (.builtin "object.__class__") "__get__" = some (some (.builtin "getset_descriptor.__get__"))
  ht : PySem.W.takesIn K (.builtin "object.__class__") = some true
  hm : PySem.W.mroIn K C (.type "object") = some true
  sf : PySem.W.selfFirst K C = true
  kC : PySem.W.kitOne K (.ref C) (.ref C) = some true
  kT : ∀ T : String, T ∈ ["int", "NoneType", "str", "tuple", "bool"] → PySem.W.kitOne K (.type T) (.ref C) = some false ∧ PySem.W.subIn K (.type T) (.ref C) = some false
theorem LenTxt.ty {K : PySem.W.Frag} {mg : Str → Option Value} {C : Addr} (T : LenTxt K mg C) {H : Hp} {p : Addr} {n : Nm} (h : LenAt C H p n) : TyX K H (.ref p) (.ref C) := by
  obtain ⟨dx, r, h1, _⟩ := h
  exact .base (.ins h1 T.cl T.hc T.hn T.ht T.hm)
theorem nf_self {K : PySem.W.Frag} {C : Addr} : PySem.W.notFirst K C (.ref C) = true := by simp [PySem.W.notFirst]
theorem nf_of {K : PySem.W.Frag} {C : Addr} {t : Value} (h : PySem.W.subIn K t (.ref C) = some false) : PySem.W.notFirst K C t = true := by simp [PySem.W.notFirst, h]
/-! ### the promises -/
def spLI (C : Addr) : Sp := fun vs H Q _ => ∃ (p dx : Addr) (n : Nm), vs = [.ref p, nV n] ∧ H p = some (.ins C dx []) ∧
  ∀ (r : Addr) (H' : Hp), H r = none → H' p = some (.ins C dx (lenF n r)) → H' r = some (.tup (rkV n)) → (∀ b o, H b = some o → b ≠ p → H' b = some o) → Q .non H'
/-- a new length with this number comes out -/
def newLen (C : Addr) (H : Hp) (n : Nm) (Q : VK) : Prop := ∀ (x : Addr) (H' : Hp), H x = none → Same H H' → LenAt C H' x n → Q (.ref x) H'
theorem mk_len {C : Addr} {H : Hp} {n : Nm} {Q : VK} {E : XK} (k : newLen C H n Q) : ∀ x dx, H x = none → H dx = none → dx ≠ x →
    spLI C (.ref x :: ([nV n] ++ [])) (upd (upd H dx (.own x)) x (.ins C dx [])) (fun v H2 => v = .non ∧ Q (.ref x) H2) E := by
  intro x dx nx nd ne
  refine ⟨x, dx, n, rfl, upd_same, fun r H' hr h1 h2 kp => ⟨rfl, k x H' nx (fun b o e => kp b o ?_ (ne_of_none e nx)) ⟨dx, r, h1, h2⟩⟩⟩
  rw [upd_ne (ne_of_none e nx), upd_ne (ne_of_none e nd)]
  exact e
section
variable {P : Program} {w : World} {K : PySem.W.Frag} {mg : Str → Option Value} {base : Heap} {C fI : Addr} {fdI : FuncData}
theorem scLI : FnScope ["self", "number"] ["self", "number"] (defScope sLI) := ⟨rfl, rfl, rfl, by decide +kernel, rfl, by decide +kernel, by decide +kernel⟩
theorem ok_LI {f : Addr} {fd : FuncData} (F : Fun K "__init__" "Length.__init__" sLI f fd) (T : LenTxt K mg C) : FnOk P w K mg base CX0 1 f fd ["self", "number"] (spLI C) := by
  refine F.ok scLI (fun vs H Q E h => ?_) (fun cdv A outer s H vs Q E hr h => ?_)
  · obtain ⟨p, dx, n, rfl, _⟩ := h
    rfl
  · obtain ⟨p, dx, n, rfl, hp, k⟩ := h
    refine ⟨_, pss_cons (ps_fld (pv 0) (pv 1) rfl)
      (pss_one (ps_fld (pv 0) (pe_ifExp (pt_cmpR op_isN (pv 1) pe_non (nomark _)) (pe_tup (pa_cons pe_int (pa_cons pe_int pa_nil))) (pe_tup (pa_cons pe_int (pa_cons (pv 1) pa_nil)))) rfl)), ?_⟩
    refine ⟨_, rfl, _, rfl, p, C, dx, [], rfl, hp, T.cl, T.nN, (by show 0 < 1000; decide), ?_⟩
    refine ⟨_, rfl, rfl, _, rfl, ?_⟩
    have fin : ∀ r, (upd H p (.ins C dx (putF "_number" (nV n) []))) r = none → ∃ a C' dx' fs, V.ref p = .ref a ∧ (upd (upd H p (.ins C dx (putF "_number" (nV n) []))) r (.tup (rkV n))) a = some (.ins C' dx' fs) ∧ Cls K C' ∧ NoAttr K C' "_rank" ∧ fs.length < 1000 ∧
        Q .non (upd (upd (upd H p (.ins C dx (putF "_number" (nV n) []))) r (.tup (rkV n))) a (.ins C' dx' (putF "_rank" (.ref r) fs))) := by
      intro r hr
      have nr : p ≠ r := fun z => by rw [← z, upd_same] at hr; cases hr
      refine ⟨p, C, dx, putF "_number" (nV n) [], rfl, by rw [upd_ne nr, upd_same], T.cl, T.nR, (by show 1 < 1000; decide), ?_⟩
      have hr0 : H r = none := by rw [upd_ne nr.symm] at hr; exact hr
      refine k r _ hr0 upd_same (by rw [upd_ne nr.symm, upd_same]) fun b o e hb => ?_
      rw [upd_ne hb, upd_ne (ne_of_none e hr0), upd_ne hb]
      exact e
    cases n with
    | none => exact iteT ⟨by show 2 ≤ sizeLine; decide, fun r hr => ⟨_, rfl, fin r hr⟩⟩
    | some i => exact iteF ⟨_, rfl, by show 2 ≤ sizeLine; decide, fun r hr => ⟨_, rfl, fin r hr⟩⟩
/-- Length.free() -/
def spLFree (C : Addr) : Sp := fun vs H Q _ => vs = [.ref C] ∧ newLen C H none Q
theorem scLFree : FnScope ["cls"] ["cls"] (defScope sLFree) := ⟨rfl, rfl, rfl, by decide +kernel, rfl, by decide +kernel, by decide +kernel⟩
theorem ok_LFree {f : Addr} {fd : FuncData} (F : Fun K "free" "Length.free" sLFree f fd) (T : LenTxt K mg C) (M : Mk K C fI) (GI : FnOk P w K mg base CX0 1 fI fdI ["self", "number"] (spLI C)) (bI : Binds K fdI ["self", "number"] []) :
    FnOk P w K mg base CX0 3 f fd ["cls"] (spLFree C) := by
  refine F.ok scLFree (fun vs H Q E h => ?_) (fun cdv A outer s H vs Q E hr h => ?_)
  · obtain ⟨rfl, _⟩ := h
    rfl
  · obtain ⟨rfl, k⟩ := h
    refine ⟨_, (pss_one (ps_ret (pe_makeL (i := 0) M GI (hr.mono (by decide)) rfl (.inl rfl) bI .nil pass0 (pa_cons pe_non pa_nil)))), ?_⟩
    exact ⟨rfl, mk_len (n := none) k⟩
/-- a.number -/
def spLNum (C : Addr) : Sp := fun vs H Q _ => ∃ p n, vs = [.ref p] ∧ LenAt C H p n ∧ Q (nV n) H
theorem scLNum : FnScope ["self"] ["self"] (defScope sLNum) := ⟨rfl, rfl, rfl, by decide +kernel, rfl, by decide +kernel, by decide +kernel⟩
theorem ok_LNum {f : Addr} {fd : FuncData} (F : Fun K "number" "Length.number" sLNum f fd) (T : LenTxt K mg C) : FnOk P w K mg base CX0 1 f fd ["self"] (spLNum C) := by
  refine F.ok scLNum (fun vs H Q E h => ?_) (fun cdv A outer s H vs Q E hr h => ?_)
  · obtain ⟨p, n, rfl, _⟩ := h
    rfl
  · obtain ⟨p, n, rfl, ⟨dx, r, h1, h2⟩, k⟩ := h
    refine ⟨_, (pss_one (ps_ret (pe_fld (pv 0) rfl))), ?_⟩
    exact ⟨_, rfl, p, C, dx, _, _, rfl, h1, T.cl, T.nN, lenF_num n r, k⟩
/-- a.is_free -/
def spLIsF (C : Addr) : Sp := fun vs H Q _ => ∃ p n, vs = [.ref p] ∧ LenAt C H p n ∧ Q (.bl n.isNone) H
theorem nV_non (n : Nm) : decide (nV n = .non) = n.isNone := by cases n <;> rfl
theorem scLIsF : FnScope ["self"] ["self"] (defScope sLIsF) := ⟨rfl, rfl, rfl, by decide +kernel, rfl, by decide +kernel, by decide +kernel⟩
theorem ok_LIsF {f : Addr} {fd : FuncData} (F : Fun K "is_free" "Length.is_free" sLIsF f fd) (T : LenTxt K mg C) : FnOk P w K mg base CX0 1 f fd ["self"] (spLIsF C) := by
  refine F.ok scLIsF (fun vs H Q E h => ?_) (fun cdv A outer s H vs Q E hr h => ?_)
  · obtain ⟨p, n, rfl, _⟩ := h
    rfl
  · obtain ⟨p, n, rfl, ⟨dx, r, h1, h2⟩, k⟩ := h
    refine ⟨_, (pss_one (ps_ret (pe_cmpR op_isN (pe_fld (pv 0) rfl) pe_non (nomark _)))), ?_⟩
    refine ⟨_, rfl, p, C, dx, _, _, rfl, h1, T.cl, T.nN, lenF_num n r, rfl, ?_⟩
    rw [nV_non]
    exact k
/-- the other summand: a length or an int -/
inductive YV (C : Addr) (H : Hp) : V → Nm → Prop where
  | len {q : Addr} {m : Nm} (h : LenAt C H q m) : YV C H (.ref q) m
  | int (j : Int) : YV C H (.int j) (some j)
def addN : Nm → Nm → Nm
  | some a, some b => some (a + b)
  | _, _ => none
/-- a + y -/
def spLAdd (C : Addr) : Sp := fun vs H Q _ => ∃ p n y m, vs = [.ref p, y] ∧ LenAt C H p n ∧ YV C H y m ∧ newLen C H (addN n m) Q
theorem scLAdd : FnScope ["self", "other", "more"] ["self", "other"] (defScope sLAdd) := ⟨rfl, rfl, rfl, by decide +kernel, rfl, by decide +kernel, by decide +kernel⟩
theorem ok_LAdd {f : Addr} {fd : FuncData} (F : Fun K "__add__" "Length.__add__" sLAdd f fd) (T : LenTxt K mg C) (M : Mk K C fI) (GI : FnOk P w K mg base CX0 1 fI fdI ["self", "number"] (spLI C)) (bI : Binds K fdI ["self", "number"] []) :
    FnOk P w K mg base CX0 3 f fd ["self", "other"] (spLAdd C) := by
  refine F.ok scLAdd (fun vs H Q E h => ?_) (fun cdv A outer s H vs Q E hr h => ?_)
  · obtain ⟨p, n, y, m, rfl, _⟩ := h
    rfl
  · obtain ⟨p, n, y, m, rfl, hp, hy, k⟩ := h
    have nd := scLAdd.nd
    refine ⟨_, (pss_cons (ps_if (pt_val (pe_callB call_isi (by rfl) T.b_isinstance (by decide +kernel) (pa_cons (pv 1) (pa_cons (pe_glob (v := .ref C) rfl T.gC rfl) pa_nil))))
        (pss_one (ps_set (i := 2) nd rfl (.inl rfl) (pe_fld (pv 1) rfl)))
        (pss_one (ps_if (PW.pt (pw_and (pt_val (pe_callB call_isi (by rfl) T.b_isinstance (by decide +kernel) (pa_cons (pv 1) (pa_cons (pe_bltn (v := .ty "int") (by rfl) T.b_int (by decide +kernel) rfl) pa_nil)))) (pw_and1 (pt_not (pt_val (pe_callB call_isi (by rfl) T.b_isinstance (by decide +kernel) (pa_cons (pv 1) (pa_cons (pe_bltn (v := .ty "bool") (by rfl) T.b_bool (by decide +kernel) rfl) pa_nil))))))))
            (pss_one (ps_set (i := 2) nd rfl (.inl rfl) (pv 1)))
            (pss_one ps_never))))
      (pss_cons (ps_if (PW.pt (pw_or (pt_cmpR op_isN (pe_fld (pv 0) rfl) pe_non (nomark _)) (pw_or1 (pt_cmpR op_isN (pv 2) pe_non (nomark _)))))
        (pss_one (ps_ret (pe_make M GI (hr.mono (by decide)) rfl T.gC bI .nil pass0 (pa_cons pe_non pa_nil))))
        pss_nil)
      (pss_one (ps_ret (pe_make M GI (hr.mono (by decide)) rfl T.gC bI .nil pass0 (pa_cons (pe_op op_add (pe_fld (pv 0) rfl) (pv 2)) pa_nil)))))), ?_⟩
    obtain ⟨dx, r, h1, h2⟩ := id hp
    refine seq_rest (fun σ1 H1 => H1 = H ∧ σ1 = [some (.ref p), some y, some (nV m)]) ?_ (fun rest => ?_)
    · rintro σ1 H1 ⟨rfl, rfl⟩
      refine ⟨_, rfl, p, C, dx, _, _, rfl, h1, T.cl, T.nN, lenF_num n r, rfl, _, rfl, ?_⟩
      cases n with
      | none => exact iteT (iteT (mk_len (n := none) k))
      | some a =>
        refine iteF ⟨_, rfl, rfl, _, rfl, ?_⟩
        cases m with
        | none => exact iteT (mk_len (n := none) k)
        | some b => exact iteF ⟨_, rfl, p, C, dx, _, _, rfl, h1, T.cl, T.nN, lenF_num _ r, _, rfl, _, _, rfl, rfl, mk_len (n := some (a + b)) k⟩
    · cases hy with
      | @len q m hq =>
        have ty := T.ty hq
        obtain ⟨dy, u, g1, g2⟩ := hq
        refine ⟨_, rfl, _, _, _, _, _, rfl, .own C, ty, T.kC, _, rfl, ?_⟩
        exact iteT ⟨_, rfl, q, C, dy, _, _, rfl, g1, T.cl, T.nN, lenF_num m u, rest _ _ ⟨rfl, rfl⟩⟩
      | int j =>
        refine ⟨_, rfl, _, _, _, _, _, rfl, .own C, .base (.int j), (T.kT "int" (by decide)).1, _, rfl, ?_⟩
        refine iteF ⟨_, rfl, _, _, _, _, true, rfl, .ty "int", .base (.int j), kit_ty (by decide +kernel), _, rfl, ?_⟩
        refine iteT ⟨_, rfl, _, _, _, _, false, rfl, .ty "bool", .base (.int j), kit_ty (by decide +kernel), _, rfl, ?_⟩
        exact iteT ⟨_, rfl, rest _ _ ⟨rfl, rfl⟩⟩
/-- what a + needs where it stands -/
structure AddF (P : Program) (w : World) (K : PySem.W.Frag) (mg : Str → Option Value) (base : Heap) (C fA fR : Addr) (fdA : FuncData) : Prop where
  A : FnOk P w K mg base CX0 3 fA fdA ["self", "other"] (spLAdd C)
  bA : Binds K fdA ["self", "other"] []
  sA : PySem.W.findIn K (.ref C) (PySem.dunder "add") = some (some (.ref fA))
  iA : PySem.W.isFn K (.ref fA) = true
  sR : PySem.W.findIn K (.ref C) (dunderR "add") = some (some (.ref fR))
  iR : PySem.W.isFn K (.ref fR) = true
  s3 : ∃ fo, PySem.W.findIn K (.type "int") (PySem.dunder "add") = some fo
  s4 : ∃ ro, PySem.W.findIn K (.type "int") (dunderR "add") = some ro
  s5 : PySem.W.subIn K (.type "int") (.ref C) = some false
  s6 : PySem.W.subIn K (.ref C) (.type "int") = some false
/-- n + a -/
def spLRadd (C : Addr) : Sp := fun vs H Q _ => ∃ p n j, vs = [.ref p, .int j] ∧ LenAt C H p n ∧ newLen C H (addN n (some j)) Q
theorem op_lenAddI {X : Cx} {C fA fR : Addr} {fdA : FuncData} (a : AddF X.prog X.w X.K X.mg X.base C fA fR fdA) (T : LenTxt X.K X.mg C) (hr : Room 3 X.A) :
    OpR X (binaryOp .Add) (fun x y H Q => ∃ p n j, x = .ref p ∧ y = .int j ∧ LenAt C H p n ∧ newLen C H (addN n (some j)) Q) := by
  obtain ⟨fo, s3⟩ := a.s3
  obtain ⟨ro, s4⟩ := a.s4
  have R := op_binOwnT (X := X) (op := .Add) (T := "int") a.A hr a.bA pass0 T.sf a.sA a.iA a.sR (.inr ⟨fR, rfl⟩) s3 s4 a.s5
  intro pins s σ H x y v u Q I rx ry h
  obtain ⟨p, n, j, rfl, rfl, hp, k⟩ := h
  obtain ⟨dx, r, h1, h2⟩ := id hp
  exact R pins s σ H _ _ _ _ Q I rx ry ⟨p, dx, _, rfl, h1, (fun u ru => by obtain ⟨t, rfl⟩ := (show ∃ t, u = Value.int j t from ru); rfl), p, n, _, _, rfl, hp, .int j, k⟩
theorem op_lenAdd {X : Cx} {C fA fR : Addr} {fdA : FuncData} (a : AddF X.prog X.w X.K X.mg X.base C fA fR fdA) (T : LenTxt X.K X.mg C) (hr : Room 3 X.A) :
    OpR X (binaryOp .Add) (fun x y H Q => ∃ p n q m, x = .ref p ∧ y = .ref q ∧ LenAt C H p n ∧ LenAt C H q m ∧ newLen C H (addN n m) Q) := by
  have R := op_binOwn (X := X) (op := .Add) a.A hr a.bA pass0 T.sf a.sA a.iA
  intro pins s σ H x y v u Q I rx ry h
  obtain ⟨p, n, q, m, rfl, rfl, hp, hq, k⟩ := h
  obtain ⟨dx, r, h1, h2⟩ := id hp
  obtain ⟨dy, r', g1, g2⟩ := id hq
  exact R pins s σ H _ _ _ _ Q I rx ry ⟨p, dx, _, q, dy, _, rfl, h1, rfl, g1, p, n, _, m, rfl, hp, .len hq, k⟩
theorem scLRadd : FnScope ["self", "other"] ["self", "other"] (defScope sLRadd) := ⟨rfl, rfl, rfl, by decide +kernel, rfl, by decide +kernel, by decide +kernel⟩
theorem ok_LRadd {f : Addr} {fd : FuncData} (F : Fun K "__radd__" "Length.__radd__" sLRadd f fd) (T : LenTxt K mg C) {fA fR : Addr} {fdA : FuncData} (a : AddF P w K mg base C fA fR fdA) :
    FnOk P w K mg base CX0 4 f fd ["self", "other"] (spLRadd C) := by
  refine F.ok scLRadd (fun vs H Q E h => ?_) (fun cdv A outer s H vs Q E hr h => ?_)
  · obtain ⟨p, n, j, rfl, _⟩ := h
    rfl
  · obtain ⟨p, n, j, rfl, hp, k⟩ := h
    refine ⟨_, pss_one (ps_ret (pe_op (op_lenAddI a T hr) (pv 0) (pv 1))), ?_⟩
    exact ⟨_, rfl, _, rfl, p, n, j, rfl, rfl, hp, k⟩
/-! ### the orders -/
def rkA : Nm → Int
  | none => 1
  | some _ => 0
def rkB : Nm → Int
  | none => 0
  | some i => i
theorem rkV_eq (n : Nm) : rkV n = [.int (rkA n), .int (rkB n)] := by cases n <;> rfl
def relN (r : Int → Int → Bool) (n m : Nm) : Bool := pairRel r (rkA n) (rkB n) (rkA m) (rkB m)
def spLCmp (C : Addr) (r : Int → Int → Bool) : Sp := fun vs H Q _ => ∃ p q n m, vs = [.ref p, .ref q] ∧ LenAt C H p n ∧ LenAt C H q m ∧ Q (.bl (relN r n m)) H
theorem rk_cmp {r u : Addr} {H : Hp} {n m : Nm} {f : Int → Int → Bool} {Q : VK} (h2 : H r = some (.tup (rkV n))) (g2 : H u = some (.tup (rkV m))) (k : Q (.bl (relN f n m)) H) : rPair K f (.ref r) (.ref u) H Q :=
  ⟨r, u, _, _, _, _, rfl, rfl, SqT.of (by rw [h2, rkV_eq]), SqT.of (by rw [g2, rkV_eq]), k⟩
theorem scLLt : FnScope ["self", "other"] ["self", "other"] (defScope sLLt) := ⟨rfl, rfl, rfl, by decide +kernel, rfl, by decide +kernel, by decide +kernel⟩
theorem ok_LLt {f : Addr} {fd : FuncData} (F : Fun K "__lt__" "Length.__lt__" sLLt f fd) (T : LenTxt K mg C) : FnOk P w K mg base CX0 1 f fd ["self", "other"] (spLCmp C fun i j => decide (i < j)) := by
  refine F.ok scLLt (fun vs H Q E h => ?_) (fun cdv A outer s H vs Q E hr h => ?_)
  · obtain ⟨p, q, n, m, rfl, _⟩ := h
    rfl
  · obtain ⟨p, q, n, m, rfl, hp, hq, k⟩ := h
    refine ⟨_, pss_cons (ps_if (pt_not (pt_val (pe_callB call_isi (by rfl) T.b_isinstance (by decide +kernel) (pa_cons (pv 1) (pa_cons (pe_glob (v := .ref C) rfl T.gC rfl) pa_nil)))))
        (pss_one ps_never) pss_nil)
      (pss_one (ps_ret (pe_cmpR (op_ltP hr.units0) (pe_fld (pv 0) rfl) (pe_fld (pv 1) rfl) (nomark _)))), ?_⟩
    have ty := T.ty hq
    obtain ⟨dx, r, h1, h2⟩ := hp
    obtain ⟨dy, u, g1, g2⟩ := hq
    refine ⟨_, rfl, _, _, _, _, _, rfl, .own C, ty, T.kC, _, rfl, ?_⟩
    refine iteF ⟨_, rfl, p, C, dx, _, _, rfl, h1, T.cl, T.nR, lenF_rank n r, _, rfl, q, C, dy, _, _, rfl, g1, T.cl, T.nR, lenF_rank m u, ?_⟩
    exact rk_cmp h2 g2 k
theorem scLLe : FnScope ["self", "other"] ["self", "other"] (defScope sLLe) := ⟨rfl, rfl, rfl, by decide +kernel, rfl, by decide +kernel, by decide +kernel⟩
theorem ok_LLe {f : Addr} {fd : FuncData} (F : Fun K "__le__" "Length.__le__" sLLe f fd) (T : LenTxt K mg C) : FnOk P w K mg base CX0 1 f fd ["self", "other"] (spLCmp C fun i j => decide (i ≤ j)) := by
  refine F.ok scLLe (fun vs H Q E h => ?_) (fun cdv A outer s H vs Q E hr h => ?_)
  · obtain ⟨p, q, n, m, rfl, _⟩ := h
    rfl
  · obtain ⟨p, q, n, m, rfl, hp, hq, k⟩ := h
    refine ⟨_, pss_cons (ps_if (pt_not (pt_val (pe_callB call_isi (by rfl) T.b_isinstance (by decide +kernel) (pa_cons (pv 1) (pa_cons (pe_glob (v := .ref C) rfl T.gC rfl) pa_nil)))))
        (pss_one ps_never) pss_nil)
      (pss_one (ps_ret (pe_cmpR (op_leP hr.units0) (pe_fld (pv 0) rfl) (pe_fld (pv 1) rfl) (nomark _)))), ?_⟩
    have ty := T.ty hq
    obtain ⟨dx, r, h1, h2⟩ := hp
    obtain ⟨dy, u, g1, g2⟩ := hq
    refine ⟨_, rfl, _, _, _, _, _, rfl, .own C, ty, T.kC, _, rfl, ?_⟩
    refine iteF ⟨_, rfl, p, C, dx, _, _, rfl, h1, T.cl, T.nR, lenF_rank n r, _, rfl, q, C, dy, _, _, rfl, g1, T.cl, T.nR, lenF_rank m u, ?_⟩
    exact rk_cmp h2 g2 k
theorem scLGt : FnScope ["self", "other"] ["self", "other"] (defScope sLGt) := ⟨rfl, rfl, rfl, by decide +kernel, rfl, by decide +kernel, by decide +kernel⟩
theorem ok_LGt {f : Addr} {fd : FuncData} (F : Fun K "__gt__" "Length.__gt__" sLGt f fd) (T : LenTxt K mg C) : FnOk P w K mg base CX0 1 f fd ["self", "other"] (spLCmp C fun i j => decide (j < i)) := by
  refine F.ok scLGt (fun vs H Q E h => ?_) (fun cdv A outer s H vs Q E hr h => ?_)
  · obtain ⟨p, q, n, m, rfl, _⟩ := h
    rfl
  · obtain ⟨p, q, n, m, rfl, hp, hq, k⟩ := h
    refine ⟨_, pss_cons (ps_if (pt_not (pt_val (pe_callB call_isi (by rfl) T.b_isinstance (by decide +kernel) (pa_cons (pv 1) (pa_cons (pe_glob (v := .ref C) rfl T.gC rfl) pa_nil)))))
        (pss_one ps_never) pss_nil)
      (pss_one (ps_ret (pe_cmpR (op_gtP hr.units0) (pe_fld (pv 0) rfl) (pe_fld (pv 1) rfl) (nomark _)))), ?_⟩
    have ty := T.ty hq
    obtain ⟨dx, r, h1, h2⟩ := hp
    obtain ⟨dy, u, g1, g2⟩ := hq
    refine ⟨_, rfl, _, _, _, _, _, rfl, .own C, ty, T.kC, _, rfl, ?_⟩
    refine iteF ⟨_, rfl, p, C, dx, _, _, rfl, h1, T.cl, T.nR, lenF_rank n r, _, rfl, q, C, dy, _, _, rfl, g1, T.cl, T.nR, lenF_rank m u, ?_⟩
    exact rk_cmp h2 g2 k
theorem scLGe : FnScope ["self", "other"] ["self", "other"] (defScope sLGe) := ⟨rfl, rfl, rfl, by decide +kernel, rfl, by decide +kernel, by decide +kernel⟩
theorem ok_LGe {f : Addr} {fd : FuncData} (F : Fun K "__ge__" "Length.__ge__" sLGe f fd) (T : LenTxt K mg C) : FnOk P w K mg base CX0 1 f fd ["self", "other"] (spLCmp C fun i j => decide (j ≤ i)) := by
  refine F.ok scLGe (fun vs H Q E h => ?_) (fun cdv A outer s H vs Q E hr h => ?_)
  · obtain ⟨p, q, n, m, rfl, _⟩ := h
    rfl
  · obtain ⟨p, q, n, m, rfl, hp, hq, k⟩ := h
    refine ⟨_, pss_cons (ps_if (pt_not (pt_val (pe_callB call_isi (by rfl) T.b_isinstance (by decide +kernel) (pa_cons (pv 1) (pa_cons (pe_glob (v := .ref C) rfl T.gC rfl) pa_nil)))))
        (pss_one ps_never) pss_nil)
      (pss_one (ps_ret (pe_cmpR (op_geP hr.units0) (pe_fld (pv 0) rfl) (pe_fld (pv 1) rfl) (nomark _)))), ?_⟩
    have ty := T.ty hq
    obtain ⟨dx, r, h1, h2⟩ := hp
    obtain ⟨dy, u, g1, g2⟩ := hq
    refine ⟨_, rfl, _, _, _, _, _, rfl, .own C, ty, T.kC, _, rfl, ?_⟩
    refine iteF ⟨_, rfl, p, C, dx, _, _, rfl, h1, T.cl, T.nR, lenF_rank n r, _, rfl, q, C, dy, _, _, rfl, g1, T.cl, T.nR, lenF_rank m u, ?_⟩
    exact rk_cmp h2 g2 k
/-! ### ==, str, repr -/
def spLEq (C : Addr) : Sp := fun vs H Q _ => ∃ p n y, vs = [.ref p, y] ∧ LenAt C H p n ∧ ((∃ q m, y = .ref q ∧ LenAt C H q m ∧ Q (.bl (decide (n = m))) H) ∨ ∃ T : String, T ∈ ["int", "NoneType", "str", "tuple", "bool"] ∧ TyX K H y (.type T) ∧ Q (.bl false) H)
theorem rk_eqv (n m : Nm) : PyData.eqv (.tuple [.int (rkA n), .int (rkB n)]) (.tuple [.int (rkA m), .int (rkB m)]) = decide (n = m) := by
  cases n with
  | none => cases m <;> simp [PyData.eqv, PyData.eqvAll, rkA, rkB]
  | some i => cases m with
    | none => simp [PyData.eqv, PyData.eqvAll, rkA, rkB]
    | some j => by_cases h : i = j <;> simp [PyData.eqv, PyData.eqvAll, rkA, rkB, h]
theorem scLEq : FnScope ["self", "other"] ["self", "other"] (defScope sLEq) := ⟨rfl, rfl, rfl, by decide +kernel, rfl, by decide +kernel, by decide +kernel⟩
theorem ok_LEq {f : Addr} {fd : FuncData} (F : Fun K "__eq__" "Length.__eq__" sLEq f fd) (T : LenTxt K mg C) : FnOk P w K mg base CX0 1 f fd ["self", "other"] (spLEq (K := K) C) := by
  refine F.ok scLEq (fun vs H Q E h => ?_) (fun cdv A outer s H vs Q E hr h => ?_)
  · obtain ⟨p, n, y, rfl, _⟩ := h
    rfl
  · obtain ⟨p, n, y, rfl, hp, hy⟩ := h
    refine ⟨_, (pss_one (ps_ret (pe_and (pe_callB call_isi (by rfl) T.b_isinstance (by decide +kernel) (pa_cons (pv 1) (pa_cons (pe_glob (v := .ref C) rfl T.gC rfl) pa_nil))) (pe_one (pe_cmpR (op_eqD hr.units) (pe_fld (pv 0) rfl) (pe_fld (pv 1) rfl) (nomark _)))))), ?_⟩
    rcases hy with ⟨q, m, rfl, hq, k⟩ | ⟨t, ht, ty, k⟩
    · have ty := T.ty hq
      obtain ⟨dx, r, h1, h2⟩ := hp
      obtain ⟨dy, u, g1, g2⟩ := hq
      refine ⟨_, rfl, _, _, _, _, _, rfl, .own C, ty, T.kC, _, rfl, ?_⟩
      refine iteT ⟨_, rfl, p, C, dx, _, _, rfl, h1, T.cl, T.nR, lenF_rank n r, _, rfl, q, C, dy, _, _, rfl, g1, T.cl, T.nR, lenF_rank m u, ?_⟩
      rw [rkV_eq] at h2 g2
      refine ⟨_, _, .tup (SqT.of h2) (.cons (.int _) (.cons (.int _) .nil)), .tup (SqT.of g2) (.cons (.int _) (.cons (.int _) .nil)), by rfl, by rfl, ?_⟩
      rw [rk_eqv]
      exact k
    · refine ⟨_, rfl, _, _, _, _, _, rfl, .own C, ty, (T.kT t ht).1, _, rfl, ?_⟩
      exact iteF k
theorem tx_len {i : Int} (h : i.natAbs.log2 < 1900) : (Str.ofString (toString i)).length ≤ 4000 := by
  have e := int_text_length_le (k := 1920) (by decide) (Nat.lt_trans h (by decide))
  rw [ofString_length]
  omega
/-- the number as a text -/
def tx (n : Nm) : Str := match n with
  | none => "free"
  | some i => toString i
def rp (n : Nm) : Str := match n with
  | none => "Length.free()"
  | some i => ("Length(" ++ toString i) ++ ")"
def small (n : Nm) : Prop := ∀ i, n = some i → i.natAbs.log2 < 1900
def spLStr (C : Addr) (g : Nm → Str) : Sp := fun vs H Q _ => ∃ p n, vs = [.ref p] ∧ LenAt C H p n ∧ small n ∧ Q (.str (g n)) H
theorem scLStr : FnScope ["self"] ["self"] (defScope sLStr) := ⟨rfl, rfl, rfl, by decide +kernel, rfl, by decide +kernel, by decide +kernel⟩
theorem ok_LStr {f : Addr} {fd : FuncData} (F : Fun K "__str__" "Length.__str__" sLStr f fd) (T : LenTxt K mg C) : FnOk P w K mg base CX0 1 f fd ["self"] (spLStr C tx) := by
  refine F.ok scLStr (fun vs H Q E h => ?_) (fun cdv A outer s H vs Q E hr h => ?_)
  · obtain ⟨p, n, rfl, _⟩ := h
    rfl
  · obtain ⟨p, n, rfl, ⟨dx, r, h1, h2⟩, sm, k⟩ := h
    refine ⟨_, (pss_cons (ps_if (pt_cmpR op_isN (pe_fld (pv 0) rfl) pe_non (nomark _))
        (pss_one (ps_ret pe_str))
        pss_nil)
      (pss_one (ps_ret (pe_callTy call_str_int (by rfl) T.b_str (by decide +kernel) (pa_cons (pe_fld (pv 0) rfl) pa_nil))))), ?_⟩
    refine ⟨_, rfl, p, C, dx, _, _, rfl, h1, T.cl, T.nN, lenF_num n r, rfl, _, rfl, ?_⟩
    cases n with
    | none => exact iteT k
    | some i => exact iteF ⟨_, rfl, p, C, dx, _, _, rfl, h1, T.cl, T.nN, lenF_num _ r, i, rfl, Nat.lt_trans (sm i rfl) (by decide), k⟩
theorem scLRepr : FnScope ["self"] ["self"] (defScope sLRepr) := ⟨rfl, rfl, rfl, by decide +kernel, rfl, by decide +kernel, by decide +kernel⟩
theorem ok_LRepr {f : Addr} {fd : FuncData} (F : Fun K "__repr__" "Length.__repr__" sLRepr f fd) (T : LenTxt K mg C) : FnOk P w K mg base CX0 1 f fd ["self"] (spLStr C rp) := by
  refine F.ok scLRepr (fun vs H Q E h => ?_) (fun cdv A outer s H vs Q E hr h => ?_)
  · obtain ⟨p, n, rfl, _⟩ := h
    rfl
  · obtain ⟨p, n, rfl, ⟨dx, r, h1, h2⟩, sm, k⟩ := h
    refine ⟨_, (pss_cons (ps_if (pt_cmpR op_isN (pe_fld (pv 0) rfl) pe_non (nomark _))
        (pss_one (ps_ret pe_str))
        pss_nil)
      (pss_one (ps_ret (pe_joined (.cons pe_str (.cons (pe_fmt (pe_fld (pv 0) rfl)) (.cons pe_str .nil))))))), ?_⟩
    refine ⟨_, rfl, p, C, dx, _, _, rfl, h1, T.cl, T.nN, lenF_num n r, rfl, _, rfl, ?_⟩
    cases n with
    | none => exact iteT k
    | some i =>
      have hz := tx_len (sm i rfl)
      have e0 : Str.empty ++ ("Length(" : Str) = "Length(" := by decide +kernel
      have e1 : (Str.empty ++ ("Length(" : Str)).length = 7 := by decide +kernel
      have e2 : (")" : Str).length = 1 := by decide +kernel
      have e3 : (Str.empty ++ ("Length(" : Str) ++ Str.ofString (toString i)).length ≤ 4007 := by rw [Str.length_append, e1]; omega
      refine iteF ⟨_, rfl, (by decide +kernel), _, rfl, p, C, dx, _, _, rfl, h1, T.cl, T.nN, lenF_num _ r, .inr ⟨i, rfl, Nat.lt_trans (sm i rfl) (by decide), _, rfl, ?_, _, rfl, ?_, ?_⟩⟩
      rotate_left 2
      · rw [e0]; exact k
      · exact Nat.le_trans e3 (by decide)
      · rw [Str.length_append, e2]
        exact Nat.le_trans (Nat.succ_le_succ e3) (by decide)
end
end Tg

namespace Tg
open PySem L2 Ow
/-- a method of the class that an operator finds -/
structure OpF (P : Program) (w : World) (K : PySem.W.Frag) (mg : Str → Option Value) (base : Heap) (C : Addr) (k : Nat) (name : Str) (ps : List Str) (sp : Sp) : Prop where
  ex : ∃ f fd, FnOk P w K mg base CX0 k f fd ps sp ∧ Binds K fd ps [] ∧ PySem.W.findIn K (.ref C) name = some (some (.ref f)) ∧ PySem.W.isFn K (.ref f) = true
structure PropF (P : Program) (w : World) (K : PySem.W.Frag) (mg : Str → Option Value) (base : Heap) (C : Addr) (k : Nat) (name : Str) (sp : Sp) : Prop where
  ex : ∃ p g fd, PropOf K C name p g ∧ FnOk P w K mg base CX0 k g fd ["self"] sp ∧ Binds K fd ["self"] []
/-- all that a law needs of the class Length -/
structure LF (P : Program) (w : World) (K : PySem.W.Frag) (mg : Str → Option Value) (base : Heap) (C : Addr) : Prop where
  T : LenTxt K mg C
  mki : ∃ fI fdI, Mk K C fI ∧ FnOk P w K mg base CX0 1 fI fdI ["self", "number"] (spLI C) ∧ Binds K fdI ["self", "number"] []
  ad : ∃ fA fR fdA fdR, AddF P w K mg base C fA fR fdA ∧ FnOk P w K mg base CX0 4 fR fdR ["self", "other"] (spLRadd C) ∧ Binds K fdR ["self", "other"] []
  lt : OpF P w K mg base C 1 "__lt__" ["self", "other"] (spLCmp C fun i j => decide (i < j))
  le : OpF P w K mg base C 1 "__le__" ["self", "other"] (spLCmp C fun i j => decide (i ≤ j))
  gt : OpF P w K mg base C 1 "__gt__" ["self", "other"] (spLCmp C fun i j => decide (j < i))
  ge : OpF P w K mg base C 1 "__ge__" ["self", "other"] (spLCmp C fun i j => decide (j ≤ i))
  eq : OpF P w K mg base C 1 "__eq__" ["self", "other"] (spLEq (K := K) C)
  ne : PySem.W.findIn K (.ref C) "__ne__" = some (some (.builtin "object.__ne__"))
  st : OpF P w K mg base C 1 "__str__" ["self"] (spLStr C tx)
  rp : OpF P w K mg base C 1 "__repr__" ["self"] (spLStr C rp)
  fr : ∃ mc p g, ClX.CRead K C mc ∧ ClX.CMet K C mc "free" p g ∧ FnR P w K mg base CX0 3 g (spLFree C)
  nu : PropF P w K mg base C 1 "number" (spLNum C)
  isf : PropF P w K mg base C 1 "is_free" (spLIsF C)
section
variable {X : Cx} {C : Addr} {r : Int → Int → Bool} {a b o e : Expr} {ta tb : TE} {t : TA} {pos apos p1 : Pos} {pl : Sem Bool}
def rLC (C : Addr) (r : Int → Int → Bool) : R2 := fun x y H Q => ∃ p q n m, x = .ref p ∧ y = .ref q ∧ LenAt C H p n ∧ LenAt C H q m ∧ Q (.bl (relN r n m)) H
theorem op_lenC {op : CmpOp} (hop : ∀ a b, compareOp op a b = richCompare op a b) (T : LenTxt X.K X.mg C) (F : OpF X.prog X.w X.K X.mg X.base C 1 (cmpInfo op).2.1 ["self", "other"] (spLCmp C r)) (hr : Room 1 X.A) : OpR X (compareOp op) (rLC C r) := by
  obtain ⟨f, fd, F, hb, hs, hf⟩ := F.ex
  have R := op_cmpOwn hop F hr hb pass0 hs hf
  intro pins s σ H x y v u Q I rx ry h
  obtain ⟨p, q, n, m, rfl, rfl, hp, hq, k⟩ := h
  obtain ⟨dx, z, h1, h2⟩ := id hp
  exact R pins s σ H _ _ _ _ Q I rx ry ⟨p, dx, _, _, rfl, h1, T.ty hq, nf_self, p, q, n, m, rfl, hp, hq, k⟩
theorem op_lenLt (L : LF X.prog X.w X.K X.mg X.base C) (hr : Room 1 X.A) : OpR X (compareOp .Lt) (rLC C fun i j => decide (i < j)) := op_lenC (fun _ _ => rfl) L.T L.lt hr
theorem op_lenLe (L : LF X.prog X.w X.K X.mg X.base C) (hr : Room 1 X.A) : OpR X (compareOp .LtE) (rLC C fun i j => decide (i ≤ j)) := op_lenC (fun _ _ => rfl) L.T L.le hr
theorem op_lenGt (L : LF X.prog X.w X.K X.mg X.base C) (hr : Room 1 X.A) : OpR X (compareOp .Gt) (rLC C fun i j => decide (j < i)) := op_lenC (fun _ _ => rfl) L.T L.gt hr
theorem op_lenGe (L : LF X.prog X.w X.K X.mg X.base C) (hr : Room 1 X.A) : OpR X (compareOp .GtE) (rLC C fun i j => decide (j ≤ i)) := op_lenC (fun _ _ => rfl) L.T L.ge hr
/-- a length == any value -/
def rLEq (K : PySem.W.Frag) (C : Addr) : R2 := fun x y H Q => ∃ p n, x = .ref p ∧ LenAt C H p n ∧ ((∃ q m, y = .ref q ∧ LenAt C H q m ∧ Q (.bl (decide (n = m))) H) ∨ ∃ T : String, T ∈ ["int", "NoneType", "str", "tuple", "bool"] ∧ TyX K H y (.type T) ∧ Q (.bl false) H)
theorem op_lenEq (L : LF X.prog X.w X.K X.mg X.base C) (hr : Room 1 X.A) : OpR X (compareOp .Eq) (rLEq X.K C) := by
  obtain ⟨f, fd, F, hb, hs, hf⟩ := L.eq.ex
  have R := op_cmpOwn (op := .Eq) (fun _ _ => rfl) F hr hb pass0 hs hf
  intro pins s σ H x y v u Q I rx ry h
  obtain ⟨p, n, rfl, hp, k⟩ := h
  obtain ⟨dx, z, h1, h2⟩ := id hp
  rcases k with ⟨q, m, rfl, hq, k⟩ | ⟨t, ht, ty, k⟩
  · exact R pins s σ H _ _ _ _ Q I rx ry ⟨p, dx, _, _, rfl, h1, L.T.ty hq, nf_self, p, n, _, rfl, hp, .inl ⟨q, m, rfl, hq, k⟩⟩
  · exact R pins s σ H _ _ _ _ Q I rx ry ⟨p, dx, _, _, rfl, h1, ty, nf_of (L.T.kT t ht).2, p, n, _, rfl, hp, .inr ⟨t, ht, ty, k⟩⟩
theorem op_lenEqK (K : PySem.W.Frag) (L : LF X.prog X.w X.K X.mg X.base C) (hr : Room 1 X.A) (hK : X.K = K := by rfl) : OpR X (compareOp .Eq) (rLEq K C) := by
  rw [← hK]
  exact op_lenEq L hr
/-- a length != a length -/
def rLNe (C : Addr) : R2 := fun x y H Q => ∃ p q n m, x = .ref p ∧ y = .ref q ∧ LenAt C H p n ∧ LenAt C H q m ∧ Q (.bl (!decide (n = m))) H
theorem op_lenNe (L : LF X.prog X.w X.K X.mg X.base C) (hr : Room 2 X.A) : OpR X (compareOp .NotEq) (rLNe C) := by
  obtain ⟨f, fd, F, hb, hs, hf⟩ := L.eq.ex
  have R := op_neOwn F hr hb pass0 L.T.hm L.ne hs hf
  intro pins s σ H x y v u Q I rx ry h
  obtain ⟨p, q, n, m, rfl, rfl, hp, hq, k⟩ := h
  obtain ⟨dx, z, h1, h2⟩ := id hp
  exact R pins s σ H _ _ _ _ Q I rx ry ⟨p, dx, _, _, rfl, h1, L.T.ty hq, nf_self, p, n, _, rfl, hp, .inl ⟨q, m, rfl, hq, _, rfl, k⟩⟩
/-- a + b -/
def rLAdd (C : Addr) : R2 := fun x y H Q => ∃ p q n m, x = .ref p ∧ y = .ref q ∧ LenAt C H p n ∧ LenAt C H q m ∧ newLen C H (addN n m) Q
theorem op_lenA (L : LF X.prog X.w X.K X.mg X.base C) (hr : Room 3 X.A) : OpR X (binaryOp .Add) (rLAdd C) := by
  obtain ⟨fA, fR, fdA, fdR, A, _, _⟩ := L.ad
  have R := op_lenAdd A L.T hr
  intro pins s σ H x y v u Q I rx ry h
  obtain ⟨p, q, n, m, h1, h2, hp, hq, k⟩ := h
  exact R pins s σ H x y v u Q I rx ry ⟨p, n, q, m, h1, h2, hp, hq, k⟩
def rLAddI (C : Addr) : R2 := fun x y H Q => ∃ p n j, x = .ref p ∧ y = .int j ∧ LenAt C H p n ∧ newLen C H (addN n (some j)) Q
theorem op_lenAI (L : LF X.prog X.w X.K X.mg X.base C) (hr : Room 3 X.A) : OpR X (binaryOp .Add) (rLAddI C) := by
  obtain ⟨fA, fR, fdA, fdR, A, _, _⟩ := L.ad
  exact op_lenAddI A L.T hr
def rILAdd (C : Addr) : R2 := fun x y H Q => ∃ p n j, x = .int j ∧ y = .ref p ∧ LenAt C H p n ∧ newLen C H (addN n (some j)) Q
theorem op_IlenA (L : LF X.prog X.w X.K X.mg X.base C) (hr : Room 4 X.A) : OpR X (binaryOp .Add) (rILAdd C) := by
  obtain ⟨fA, fR, fdA, fdR, A, R, bR⟩ := L.ad
  have R := op_addIOwn (X := X) (rc := none) R hr bR pass0 L.T.sf A.sA A.sR A.iR A.s6
  intro pins s σ H x y v u Q I rx ry h
  obtain ⟨p, n, j, rfl, rfl, hp, k⟩ := h
  obtain ⟨dx, z, h1, h2⟩ := id hp
  exact R pins s σ H _ _ _ _ Q I rx ry ⟨j, p, dx, _, rfl, rfl, h1, p, n, j, rfl, hp, k⟩
/-- str(a), repr(a) -/
def rLS (C : Addr) (g : Nm → Str) : List V → Hp → VK → Prop := fun xs H Q => ∃ p n, xs = [.ref p] ∧ LenAt C H p n ∧ small n ∧ Q (.str (g n)) H
theorem call_lenStr (L : LF X.prog X.w X.K X.mg X.base C) (hr : Room 3 X.A) : CallR X (.type "str") (rLS C tx) := by
  obtain ⟨f, fd, F, hb, hs, hf⟩ := L.st.ex
  have R := call_strOwn F hr hb pass0 hs hf
  intro pins s σ H xs us Q I r h
  obtain ⟨p, n, rfl, hp, sm, k⟩ := h
  obtain ⟨dx, z, h1, h2⟩ := id hp
  exact R pins s σ H _ _ Q I r ⟨p, dx, _, rfl, h1, p, n, rfl, hp, sm, _, rfl, k⟩
theorem call_lenRepr (L : LF X.prog X.w X.K X.mg X.base C) (hr : Room 2 X.A) : CallR X (.builtin "repr") (rLS C rp) := by
  obtain ⟨f, fd, F, hb, hs, hf⟩ := L.rp.ex
  have R := call_reprOwn F hr hb pass0 hs hf
  intro pins s σ H xs us Q I r h
  obtain ⟨p, n, rfl, hp, sm, k⟩ := h
  obtain ⟨dx, z, h1, h2⟩ := id hp
  exact R pins s σ H _ _ Q I r ⟨p, dx, _, rfl, h1, p, n, rfl, hp, sm, _, rfl, k⟩
/-- Length(e), e a number or None: behind e, mk_len -/
theorem pe_len (L : LF X.prog X.w X.K X.mg X.base C) (hr : Room 2 X.A) (hg : Gl X "Length") (ha : PA X [e] t) (he : starEach [e] X.env = (false, eval e X.env) :: starEach [] X.env := by rfl)
    (hpl : (backTo pos (starEach [] X.env)).any (·.1) = false := by rfl) : PE X (.Call (.Name "Length" p1) [e] [] pos) (tMake C (spLI C) [] E0 t) := by
  obtain ⟨fI, fdI, M, F, bI⟩ := L.mki
  exact pe_make (p := p1) (pos := pos) M F hr hg L.T.gC bI .nil pass0 ha (by decide) he hpl
/-- Length.free() -/
theorem pe_free (L : LF X.prog X.w X.K X.mg X.base C) (hr : Room 3 X.A) (hg : Gl X "Length")
    (ht : eval (.Call (.Attribute (.Name "Length" p1) "free" apos) [] [] pos) X.env = (do
      let ov ← eval (.Name "Length" p1) X.env
      standAt apos.atName
      let (fv, fst) ← holding [ov] (getMethod ov "free" pl)
      callWith pos fv fst (backTo pos (starEach [] X.env)) (backToKw pos (keywordEach [] X.env))) := by rfl) :
    PE X (.Call (.Attribute (.Name "Length" p1) "free" apos) [] [] pos) (ClX.tCMeth C (spLFree C) E0 (tC (.ref C)) tNil) := by
  obtain ⟨mc, p, g, r, c, F⟩ := L.fr
  exact pe_cmeth0 (pe_glob (v := .ref C) hg L.T.gC rfl) r c F hr pass0 ht
theorem pe_num (L : LF X.prog X.w X.K X.mg X.base C) (hr : Room 2 X.A) (he : PE X e ta) (hab : attributeBase e "number" X.env (eval e X.env) = eval e X.env := by rfl) : PE X (.Attribute e "number" pos) (tProp C (spLNum C) [] E0 ta) := by
  obtain ⟨p, g, fd, hp, F, hb⟩ := L.nu.ex
  exact pe_prop he L.T.cl hp F hr hb .nil pass0 hab
theorem pe_isf (L : LF X.prog X.w X.K X.mg X.base C) (hr : Room 2 X.A) (he : PE X e ta) (hab : attributeBase e "is_free" X.env (eval e X.env) = eval e X.env := by rfl) : PE X (.Attribute e "is_free" pos) (tProp C (spLIsF C) [] E0 ta) := by
  obtain ⟨p, g, fd, hp, F, hb⟩ := L.isf.ex
  exact pe_prop he L.T.cl hp F hr hb .nil pass0 hab
end
end Tg

namespace Tg
open PySem L2 Ow
abbrev sLLeast : Stmt := inClass (top 1) 2
abbrev sBox : Stmt := top 3
abbrev sTake : Stmt := top 4
abbrev sMixed : Stmt := top 5
abbrev sLength : Stmt := top 6
abbrev sLeastR : Stmt := top 7
abbrev sManyR : Stmt := top 8
abbrev sLaw : Stmt := top 9
theorem Kp.new {b L p : Addr} {H H' : Hp} {o : HO} (k : Kp b L H H') (n : H p = none) : Kp b L H (upd H' p o) := fun a u n1 n2 h => by
  rw [upd_ne (ne_of_none h n)]
  exact k a u n1 n2 h
theorem Box.new {b L p : Addr} {H : Hp} {o : HO} (B : Box b L H) (n : H p = none) : Box b L (upd H p o) := by
  obtain ⟨gs, now, seed, turn, B⟩ := B
  exact ⟨gs, now, seed, turn, by rw [upd_ne (ne_of_none B.dc n)]; exact B.dc, by rw [upd_ne (ne_of_none B.ls n)]; exact B.ls, B.now0, B.seed0, B.seed1, B.pos⟩
theorem Box.apart {b L p : Addr} {H : Hp} (B : Box b L H) (n : H p = none) : p ≠ b ∧ p ≠ L := by
  obtain ⟨gs, now, seed, turn, B⟩ := B
  exact ⟨(ne_of_none B.dc n).symm, (ne_of_none B.ls n).symm⟩
theorem Box.same {b L : Addr} {H H' : Hp} (B : Box b L H) (s : Same H H') : Box b L H' := by
  obtain ⟨gs, now, seed, turn, B⟩ := B
  exact ⟨gs, now, seed, turn, s _ _ B.dc, s _ _ B.ls, B.now0, B.seed0, B.seed1, B.pos⟩
/-- another object of ours is changed -/
theorem Box.put {b L p : Addr} {H : Hp} {o : HO} (B : Box b L H) (n1 : p ≠ b) (n2 : p ≠ L) : Box b L (upd H p o) := by
  obtain ⟨gs, now, seed, turn, B⟩ := B
  exact ⟨gs, now, seed, turn, by rw [upd_ne n1.symm]; exact B.dc, by rw [upd_ne n2.symm]; exact B.ls, B.now0, B.seed0, B.seed1, B.pos⟩
theorem _root_.L2.Same.kp {b L : Addr} {H H1 H2 : Hp} (s : Same H H1) (nb : H b = none) (nL : H L = none) (k : Kp b L H1 H2) : Same H H2 := fun a o e => k a o (ne_of_none e nb) (ne_of_none e nL) (s a o e)
theorem LenAt.kp {C b L p : Addr} {H H' : Hp} {n : Nm} (h : LenAt C H p n) (B : Box b L H) (k : Kp b L H H') : LenAt C H' p n := by
  obtain ⟨dx, r, h1, h2⟩ := h
  obtain ⟨gs, now, seed, turn, B⟩ := B
  exact ⟨dx, r, k _ _ (ne_of h1 B.dc (by intro z; cases z)) (ne_of h1 B.ls (by intro z; cases z)) h1, k _ _ (ne_of h2 B.dc (by intro z; cases z)) (ne_of h2 B.ls (by intro z; cases z)) h2⟩
/-! ### items in a drawn order -/
structure TxtM (mg : Str → Option Value) : Prop where
  b_list : mg "list" = none
  b_range : mg "range" = none
  b_len : mg "len" = none
def spMixed (K : PySem.W.Frag) : Sp := fun vs H Q _ => ∃ b L l xs, vs = [.ref b, .ref l] ∧ Box b L H ∧ (SqL K H l xs ∨ SqT K H l xs) ∧ xs.length ≤ 1000 ∧
  ∀ p ys H', H p = none → List.Perm ys xs → H' p = some (.lst ys) → Box b L H' → Kp b L H H' → Q (.ref p) H'
theorem perm_pop {α : Type} {f l xs : List α} {k : Nat} {y : α} (h : List.Perm (f ++ l) xs) (hk : l[k]? = some y) : List.Perm ((f ++ [y]) ++ l.eraseIdx k) xs := by
  obtain ⟨hl, e⟩ := List.getElem?_eq_some_iff.mp hk
  have z : List.Perm (y :: l.eraseIdx k) l := by
    have e2 : l = l.take k ++ y :: l.drop (k + 1) := by
      rw [← e, List.getElem_cons_drop hl, List.take_append_drop]
    have e3 : l.eraseIdx k = l.take k ++ l.drop (k + 1) := List.eraseIdx_eq_take_drop_succ l k
    rw [e3]
    conv => rhs; rw [e2]
    exact List.perm_middle.symm
  refine List.Perm.trans ?_ h
  rw [List.append_assoc]
  exact List.Perm.append_left f z
section
variable {P : Program} {w : World} {K : PySem.W.Frag} {mg : Str → Option Value} {base : Heap} {C : Addr}
theorem scMixed : FnScope ["_law_box_here", "_law_items", "_law_left", "_law_found", "_law_turn"] ["_law_box_here", "_law_items"] (defScope sMixed) := ⟨rfl, rfl, rfl, by decide +kernel, rfl, by decide +kernel, by decide +kernel⟩
theorem ok_mixed {f : Addr} {fd : FuncData} (F : Fun K "_law_mixed" "_law_mixed" sMixed f fd) (T : TxtM mg) (cTake : Cal P w K mg base 1 "_law_take" ["_law_box_here", "_law_many"] spTake) : FnOk P w K mg base CX0 2 f fd ["_law_box_here", "_law_items"] (spMixed K) := by
  refine F.ok scMixed (fun vs H Q E h => ?_) (fun cdv A outer s H vs Q E hr h => ?_)
  · obtain ⟨b, L, l, xs, rfl, _⟩ := h
    rfl
  · obtain ⟨b, L, l, xs, rfl, B, hS, hz, k⟩ := h
    have nd := scMixed.nd
    refine ⟨_, (pss_cons (ps_par (i := 2) (j := 3) (by rfl) nd rfl rfl (by decide) rfl rfl (pa_cons (pe_callTy call_list_of (by rfl) T.b_list (by decide +kernel) (pa_cons (pv 1) pa_nil)) (pa_cons (pe_lst pa_nil) pa_nil)) (by rfl))
      (pss_cons (ps_for PassesOwn.never rfl (pi_range1 (by rfl) T.b_range (pa_cons (pe_callB call_len_seq (by rfl) T.b_len PySem.boot_len (pa_cons (pv 2) pa_nil)) pa_nil)) (pg_name (i := 4) nd rfl (.inl rfl))
        (pss_one (ps_expr (pe_bm PySem.F.plainAttrs_list PySem.F.slot_list_append PySem.F.type_list_append mt_append (pv 3) (pa_cons (pe_bm PySem.F.plainAttrs_list PySem.F.slot_list_pop PySem.F.type_list_pop mt_popAt (pv 2) (pa_cons (pe_cal cTake (hr.mono (by decide)) (by rfl) (pa_cons (pv 0) (pa_cons (pe_callB call_len_seq (by rfl) T.b_len PySem.boot_len (pa_cons (pv 2) pa_nil)) pa_nil))) pa_nil)) pa_nil)))))
      (pss_one (ps_ret (pv 3))))), ?_⟩
    refine ⟨_, rfl, l, xs, rfl, hS, fun p1 hp1 => ⟨(by show 0 ≤ sizeLine; decide), fun p2 hp2 => ?_⟩⟩
    have n12 : p1 ≠ p2 := fun z => by rw [← z, upd_same] at hp2; cases hp2
    have hp2' : H p2 = none := by rw [upd_ne n12.symm] at hp2; exact hp2
    obtain ⟨b1, b2⟩ := B.apart hp1
    obtain ⟨b3, b4⟩ := B.apart hp2'
    refine ⟨_, _, rfl, ?_⟩
    have e1 : (upd (upd H p1 (.lst xs)) p2 (.lst [])) p1 = some (.lst xs) := by rw [upd_ne n12, upd_same]
    refine ⟨_, rfl, p1, xs, rfl, .inl (SqL.of e1), _, rfl, (by omega), (by omega), ?_⟩
    refine for_range (n := xs.length) (fun i σ H1 => ∃ (left found : List V) (v : Option V), σ = [some (.ref b), some (.ref l), some (.ref p1), some (.ref p2), v] ∧ H1 p1 = some (.lst left) ∧ H1 p2 = some (.lst found) ∧ List.Perm (found ++ left) xs ∧ found.length = i ∧ Box b L H1 ∧ Kp b L H H1)
      ⟨xs, [], none, rfl, e1, upd_same, List.Perm.refl _, rfl, (B.new hp1).new hp2, ((Kp.refl b L H).new hp1).new hp2'⟩ ?_ ?_
    · rintro i σ H1 hi ⟨left, found, v, rfl, h1, h2, pm, hf, B1, k1⟩
      have hl : left.length + i = xs.length := by
        have := pm.length_eq
        rw [List.length_append] at this
        omega
      have hl0 : 0 < left.length := by omega
      refine ⟨_, rfl, .inl ⟨rfl, _, SqL.of h2⟩, _, rfl, .inl ⟨rfl, _, SqL.of h1⟩, _, rfl, _, rfl, p1, left, rfl, .inl (SqL.of h1), b, L, _, rfl, by omega, ?_, B1, fun d H2 d0 d1 B2 k2 => ?_⟩
      · have : (left.length : Int).natAbs < 2 ^ 20 := by
          have e : (2 : Nat) ^ 20 = 1048576 := by decide
          omega
        exact Nat.lt_of_lt_of_le (PySem.Flt.log2_lt_of (by decide) this) (by decide)
      have h1' := k2 _ _ b1 b2 h1
      have h2' := k2 _ _ b3 b4 h2
      obtain ⟨y, hy⟩ : ∃ y, left[d.toNat]? = some y := ⟨left[d.toNat], List.getElem?_eq_getElem (by omega)⟩
      refine ⟨p1, left, d, d.toNat, y, rfl, rfl, h1', by omega, by omega, seqIndex_of d0 d1, hy, ?_⟩
      refine ⟨p2, _, _, rfl, rfl, (by rw [upd_ne n12.symm]; exact h2'), small1000 (by omega), ?_⟩
      refine ⟨left.eraseIdx d.toNat, found ++ [y], _, rfl, (by rw [upd_ne n12, upd_same]), upd_same, perm_pop pm hy, by rw [List.length_append]; simp [hf], (B2.put b1 b2).put b3 b4, fun c o c1 c2 hc => ?_⟩
      rw [upd_ne (ne_of_none hc hp2'), upd_ne (ne_of_none hc hp1)]
      exact k2 c o c1 c2 (k1 c o c1 c2 hc)
    · rintro σ H1 ⟨left, found, v, rfl, h1, h2, pm, hf, B1, k1⟩
      have hl := pm.length_eq
      rw [List.length_append] at hl
      have e : left = [] := List.length_eq_zero_iff.mp (by omega)
      subst e
      rw [List.append_nil] at pm
      exact ⟨_, rfl, k p2 found H1 hp2' pm h2 B1 k1⟩
end
end Tg

namespace Tg
open PySem L2 Ow
/-! ### the order of lengths -/
def ltB (n m : Nm) : Bool := relN (fun i j => decide (i < j)) n m
def leB (n m : Nm) : Bool := relN (fun i j => decide (i ≤ j)) n m
theorem leB_some (i j : Int) : leB (some i) (some j) = decide (i ≤ j) := by by_cases h : i ≤ j <;> simp [leB, relN, pairRel, rkA, rkB, h]
theorem leB_none (n : Nm) : leB n none = true := by cases n <;> simp [leB, relN, pairRel, rkA, rkB]
theorem leB_no (i : Int) : leB none (some i) = false := by simp [leB, relN, pairRel, rkA, rkB]
theorem ltB_not (n m : Nm) : ltB n m = !leB m n := by
  cases n with
  | none => cases m <;> simp [ltB, leB, relN, pairRel, rkA, rkB]
  | some i => cases m with
    | none => simp [ltB, leB, relN, pairRel, rkA, rkB]
    | some j =>
      by_cases h : i < j
      · have h2 : ¬ j ≤ i := by omega
        simp [ltB, leB, relN, pairRel, rkA, rkB, h, h2]
      · have h2 : j ≤ i := by omega
        simp [ltB, leB, relN, pairRel, rkA, rkB, h, h2]
theorem leB_refl (n : Nm) : leB n n = true := by cases n <;> simp [leB, relN, pairRel, rkA, rkB]
theorem leB_trans {a b c : Nm} (h1 : leB a b = true) (h2 : leB b c = true) : leB a c = true := by
  cases c with
  | none => exact leB_none a
  | some k => cases b with
    | none => rw [leB_no] at h2; cases h2
    | some j => cases a with
      | none => rw [leB_no] at h1; cases h1
      | some i => rw [leB_some] at *; simp at *; omega
theorem leB_anti {a b : Nm} (h1 : leB a b = true) (h2 : leB b a = true) : a = b := by
  cases a with
  | none => cases b with
    | none => rfl
    | some j => rw [leB_no] at h1; cases h1
  | some i => cases b with
    | none => rw [leB_no] at h2; cases h2
    | some j => rw [leB_some] at *; simp at *; omega
theorem leB_tot (a b : Nm) : leB a b = true ∨ leB b a = true := by
  cases a with
  | none => right; exact leB_none b
  | some i => cases b with
    | none => left; rfl
    | some j =>
      rw [leB_some, leB_some]
      simp
      omega
theorem leB_add {a b c d : Nm} (h1 : leB a b = true) (h2 : leB c d = true) : leB (addN a c) (addN b d) = true := by
  cases b with
  | none => cases d <;> exact leB_none _
  | some j => cases d with
    | none => exact leB_none _
    | some l => cases a with
      | none => rw [leB_no] at h1; cases h1
      | some i => cases c with
        | none => rw [leB_no] at h2; cases h2
        | some k =>
          rw [leB_some] at h1 h2
          simp at h1 h2
          show leB (some (i + k)) (some (j + l)) = true
          rw [leB_some]
          simp
          omega
def mn2 (s o : Nm) : Nm := if ltB o s = true then o else s
def mnL (n : Nm) (ms : List Nm) : Nm := ms.foldl mn2 n
/-- the least of them -/
structure IsMin (x : Nm) (S : List Nm) : Prop where
  mem : x ∈ S
  le : ∀ s ∈ S, leB x s = true
theorem IsMin.eq {x y : Nm} {S R : List Nm} (h : IsMin x S) (g : IsMin y R) (e1 : ∀ s ∈ S, s ∈ R) (e2 : ∀ s ∈ R, s ∈ S) : x = y := leB_anti (h.le y (e2 y g.mem)) (g.le x (e1 x h.mem))
theorem mn2_min (s o : Nm) : IsMin (mn2 s o) [s, o] := by
  unfold mn2
  rw [ltB_not]
  cases h : leB s o with
  | true =>
    rw [if_neg (by simp)]
    exact ⟨by simp, fun x hx => by simp at hx; rcases hx with rfl | rfl <;> first | exact leB_refl _ | exact h⟩
  | false =>
    rw [if_pos (show (!false) = true from rfl)]
    have h' : leB o s = true := (leB_tot s o).elim (fun z => by rw [h] at z; cases z) id
    exact ⟨by simp, fun x hx => by simp at hx; rcases hx with rfl | rfl <;> first | exact leB_refl _ | exact h'⟩
theorem mnL_min : ∀ (ms : List Nm) (n : Nm), IsMin (mnL n ms) (n :: ms)
  | [], n => ⟨by simp [mnL], fun s hs => by simp at hs; subst hs; exact leB_refl _⟩
  | m :: ms, n => by
    have ih := mnL_min ms (mn2 n m)
    have h2 := mn2_min n m
    refine ⟨?_, fun s hs => ?_⟩
    · show mnL (mn2 n m) ms ∈ n :: m :: ms
      rcases List.mem_cons.mp ih.mem with e | e
      · rw [e]
        have := h2.mem
        simp at this
        rcases this with h | h <;> rw [h] <;> simp
      · exact List.mem_cons_of_mem _ (List.mem_cons_of_mem _ e)
    · show leB (mnL (mn2 n m) ms) s = true
      have top := ih.le (mn2 n m) List.mem_cons_self
      simp at hs
      rcases hs with rfl | rfl | h
      · exact leB_trans top (h2.le _ (by simp))
      · exact leB_trans top (h2.le _ (by simp))
      · exact ih.le s (List.mem_cons_of_mem _ h)
theorem mnL_snoc (n : Nm) (ms : List Nm) (o : Nm) : mnL n (ms ++ [o]) = mn2 (mnL n ms) o := by simp [mnL, List.foldl_append]
/-! ### Length.least -/
abbrev PN := Addr × Nm
def okP (C : Addr) (H : Hp) (L : List PN) : Prop := ∀ y ∈ L, LenAt C H y.1 y.2
theorem okP.same {C : Addr} {H H' : Hp} {L : List PN} (h : okP C H L) (s : Same H H') : okP C H' L := fun y hy => (h y hy).same s
def rf (y : PN) : V := .ref y.1
def spLeast (C : Addr) : Sp := fun vs H Q _ => ∃ (x : PN) (L : List PN), vs = (x :: L).map rf ∧ L.length ≤ 100 ∧ okP C H (x :: L) ∧ ∀ r H', Same H H' → LenAt C H' r (mnL x.2 (L.map (·.2))) → Q (.ref r) H'
def spLeastI (C : Addr) : Sp := fun vs H Q _ => ∃ (x : PN) (L : List PN) (t : Addr), vs = [rf x, .ref t] ∧ H t = some (.tup (L.map rf)) ∧ okP C H (x :: L) ∧ ∀ r, LenAt C H r (mnL x.2 (L.map (·.2))) → Q (.ref r) H
theorem take_snoc {α : Type} {l : List α} {i : Nat} {x : α} (h : l[i]? = some x) : l.take (i + 1) = l.take i ++ [x] := by
  rw [List.take_add_one, h]
  rfl
theorem rf_at {L : List PN} {i : Nat} {y : V} (h : (L.map rf)[i]? = some y) : ∃ p, L[i]? = some p ∧ y = rf p := by
  rw [List.getElem?_map] at h
  cases e : L[i]? with
  | none => rw [e] at h; cases h
  | some z => rw [e] at h; exact ⟨z, rfl, (Option.some.inj h).symm⟩
section
variable {P : Program} {w : World} {K : PySem.W.Frag} {mg : Str → Option Value} {base : Heap} {C : Addr}
theorem scLeast : FnScope ["first", "others", "smallest", "other"] ["first", "others"] (defScope sLLeast) := ⟨rfl, rfl, rfl, by decide +kernel, rfl, by decide +kernel, by decide +kernel⟩
theorem ok_least {f : Addr} {fd : FuncData} (F : Fun K "least" "Length.least" sLLeast f fd) (L : LF P w K mg base C)
    (hb : ∀ us rest : List Value, us.length = 1 → bindArgs fd ⟨us ++ rest, []⟩ = (newTuple rest >>= fun t => pure ((["first"] : List Str).zip us ++ ([("others", t)] : List (Str × Value))))) : FnR P w K mg base CX0 2 f (spLeast C) := by
  obtain ⟨oc, od, kV, doc, pm, an, cdv, ct, osl, rfl, lk, hcd⟩ := F.ex
  have G := StX.fn_star (P := P) (w := w) (mg := mg) (base := base) (CX := CX0) (k := 1) (sp := spLeastI C) (ps := ["first"]) (pv := "others") lk hcd scLeast StX.cxUp_none hb (fun A outer s H vs Q E hr h => ?_)
  · refine G.imp fun vs H Q E h => ?_
    obtain ⟨x, Ls, rfl, hl, ok, k⟩ := h
    refine ⟨[rf x], Ls.map rf, rfl, rfl, by rw [List.length_map, sizeLine_eq]; omega, fun p hp => ?_⟩
    have s1 : Same H (upd H p (.tup (Ls.map rf))) := same_upd (Same.refl _) hp
    exact ⟨x, Ls, p, rfl, upd_same, ok.same s1, fun r hr => k r _ s1 hr⟩
  · obtain ⟨x, Ls, t, rfl, ht, ok, k⟩ := h
    have nd := scLeast.nd
    refine ⟨_, PSs.nox (pss_cons (ps_set (i := 2) nd rfl (.inl rfl) (pv 0))
      (pss_cons (ps_for PassesOwn.never rfl (pi_tup (pv 1)) (pg_name (i := 3) nd rfl (.inl rfl))
        (pss_one (ps_if (pt_cmpR (op_lenLt L (hr.mono (by decide))) (pv 3) (pv 2) (nomark _))
            (pss_one (ps_set (i := 2) nd rfl (.inl rfl) (pv 3)))
            pss_nil)))
      (pss_one (ps_ret (pv 2))))), ?_⟩
    have lx := ok x List.mem_cons_self
    refine ⟨_, rfl, _, rfl, t, rfl, ⟨_, SqT.of ht⟩, ?_⟩
    refine for_tup (K := K) (a := t) (xs := Ls.map rf) (fun i σ H1 => H1 = H ∧ ∃ (r : Addr) (v : Option V), σ = [some (rf x), some (.ref t), some (.ref r), v] ∧ LenAt C H r (mnL x.2 ((Ls.take i).map (·.2)))) ⟨rfl, x.1, none, rfl, lx⟩ (fun i σ H1 _ ⟨e, _⟩ => by rw [e]; exact SqT.of ht) ?_ ?_
    · rintro i y σ H1 hi ⟨rfl, r, v, rfl, lr⟩
      obtain ⟨p, hp, rfl⟩ := rf_at hi
      have lp := ok p (List.mem_cons_of_mem _ (List.mem_of_getElem? hp))
      refine ⟨_, rfl, _, rfl, p.1, r, _, _, rfl, rfl, lp, lr, _, rfl, ?_⟩
      have e : mnL x.2 ((Ls.take (i + 1)).map (·.2)) = mn2 (mnL x.2 ((Ls.take i).map (·.2))) p.2 := by rw [take_snoc hp, List.map_append, ← mnL_snoc]; rfl
      refine ite2 (fun c => ?_) (fun c => ?_)
      · refine ⟨_, rfl, rfl, p.1, _, rfl, ?_⟩
        have c' : ltB p.2 (mnL x.2 ((Ls.take i).map (·.2))) = true := c
        rw [e, mn2, if_pos c']
        exact lp
      · refine ⟨rfl, r, _, rfl, ?_⟩
        have c' : ¬ ltB p.2 (mnL x.2 ((Ls.take i).map (·.2))) = true := c
        rw [e, mn2, if_neg c']
        exact lr
    · rintro σ H1 ⟨rfl, r, v, rfl, lr⟩
      rw [List.length_map, List.take_length] at lr
      exact ⟨_, rfl, k r lr⟩
end
end Tg

namespace Tg
open PySem L2 Ow
/-- Length.least, where it is called -/
structure LS (P : Program) (w : World) (K : PySem.W.Frag) (mg : Str → Option Value) (base : Heap) (C : Addr) : Prop where
  ex : ∃ p g, ClX.CRead K C (.type "type") ∧ SMet K C (.type "type") "least" p g ∧ SInst K C "least" p g ∧ FnR P w K mg base CX0 2 g (spLeast C)
section
variable {X : Cx} {C : Addr} {o e : Expr} {es : List Expr} {ta : TE} {t : TA} {pos apos p1 : Pos} {pl : Sem Bool}
theorem pe_least (S : LS X.prog X.w X.K X.mg X.base C) (L : LF X.prog X.w X.K X.mg X.base C) (hr : Room 2 X.A) (hg : Gl X "Length") (ha : PA X (e :: es) t) (hst : starEach (e :: es) X.env = (false, eval e X.env) :: starEach es X.env := by rfl)
    (hpl : (backTo pos (starEach es X.env)).any (·.1) = false := by rfl)
    (ht : eval (.Call (.Attribute (.Name "Length" p1) "least" apos) (e :: es) [] pos) X.env = (do
      let ov ← eval (.Name "Length" p1) X.env
      standAt apos.atName
      let (fv, fst) ← holding [ov] (getMethod ov "least" pl)
      callWith pos fv fst (backTo pos (starEach (e :: es) X.env)) (backToKw pos (keywordEach [] X.env))) := by rfl) :
    PE X (.Call (.Attribute (.Name "Length" p1) "least" apos) (e :: es) [] pos) (tSMeth C (spLeast C) E0 (tC (.ref C)) t) := by
  obtain ⟨p, g, r, c, _, F⟩ := S.ex
  exact pe_smeth (pe_glob (v := .ref C) hg L.T.gC rfl) r c F hr pass0 ha hst hpl ht
theorem pe_leastI (S : LS X.prog X.w X.K X.mg X.base C) (L : LF X.prog X.w X.K X.mg X.base C) (hr : Room 2 X.A) (he : PE X o ta) (ha : PA X (e :: es) t) (hst : starEach (e :: es) X.env = (false, eval e X.env) :: starEach es X.env := by rfl)
    (hpl : (backTo pos (starEach es X.env)).any (·.1) = false := by rfl)
    (ht : eval (.Call (.Attribute o "least" apos) (e :: es) [] pos) X.env = (do
      let ov ← eval o X.env
      standAt apos.atName
      let (fv, fst) ← holding [ov] (getMethod ov "least" pl)
      callWith pos fv fst (backTo pos (starEach (e :: es) X.env)) (backToKw pos (keywordEach [] X.env))) := by rfl) :
    PE X (.Call (.Attribute o "least" apos) (e :: es) [] pos) (tSMethI C "least" (spLeast C) E0 ta t) := by
  obtain ⟨p, g, r, _, c, F⟩ := S.ex
  exact pe_smethI he c F hr pass0 ha hst hpl ht
end
structure TxtA (mg : Str → Option Value) : Prop where
  b_all : mg "all" = none
  b_range : mg "range" = none
  b_enumerate : mg "enumerate" = none
def spLeastR (C : Addr) : Sp := fun vs H Q _ => ∃ x y z u : PN, vs = [rf x, rf y, rf z, rf u] ∧ okP C H [x, y, z, u] ∧ ∀ H', Same H H' → Q (.bl true) H'
abbrev lrN : List Str := ["_law_a", "_law_b", "_law_c", "_law_d", "_law_some", "_law_found", "_law_one"]
theorem scLeastR : FnScope lrN ["_law_a", "_law_b", "_law_c", "_law_d"] (defScope sLeastR) := ⟨rfl, rfl, rfl, by decide +kernel, rfl, by decide +kernel, by decide +kernel⟩
theorem mem4 {C : Addr} {H : Hp} {a b c d : PN} (h : okP C H [a, b, c, d]) : LenAt C H a.1 a.2 ∧ LenAt C H b.1 b.2 ∧ LenAt C H c.1 c.2 ∧ LenAt C H d.1 d.2 := ⟨h a (by simp), h b (by simp), h c (by simp), h d (by simp)⟩
theorem okP_of2 {C : Addr} {H : Hp} {a b : PN} (ha : LenAt C H a.1 a.2) (hb : LenAt C H b.1 b.2) : okP C H [a, b] := fun y hy => by simp at hy; rcases hy with rfl | rfl <;> assumption
theorem okP_of1 {C : Addr} {H : Hp} {a : PN} (ha : LenAt C H a.1 a.2) : okP C H [a] := fun y hy => by simp at hy; subst hy; exact ha
theorem okP_of3 {C : Addr} {H : Hp} {a b c : PN} (ha : LenAt C H a.1 a.2) (hb : LenAt C H b.1 b.2) (hc : LenAt C H c.1 c.2) : okP C H [a, b, c] := fun y hy => by simp at hy; rcases hy with rfl | rfl | rfl <;> assumption
theorem okP_of4 {C : Addr} {H : Hp} {a b c d : PN} (ha : LenAt C H a.1 a.2) (hb : LenAt C H b.1 b.2) (hc : LenAt C H c.1 c.2) (hd : LenAt C H d.1 d.2) : okP C H [a, b, c, d] := fun y hy => by simp at hy; rcases hy with rfl | rfl | rfl | rfl <;> assumption
section
variable {P : Program} {w : World} {K : PySem.W.Frag} {mg : Str → Option Value} {base : Heap} {C : Addr}
theorem ok_leastR {f : Addr} {fd : FuncData} (F : Fun K "_law_least_right" "_law_least_right" sLeastR f fd) (T : TxtA mg) (L : LF P w K mg base C) (S : LS P w K mg base C) : FnOk P w K mg base CX0 4 f fd ["_law_a", "_law_b", "_law_c", "_law_d"] (spLeastR C) := by
  refine F.ok scLeastR (fun vs H Q E h => ?_) (fun cdv A outer s H vs Q E hr h => ?_)
  · obtain ⟨x, y, z, u, rfl, _⟩ := h
    rfl
  · obtain ⟨x, y, z, u, rfl, ok, k⟩ := h
    have nd := scLeastR.nd
    refine ⟨_, (pss_cons (ps_for PassesOwn.never rfl (pi_tup (pe_tup (pa_cons (pe_lst (pa_cons (pv 0) (pa_cons (pv 1) (pa_cons (pv 2) (pa_cons (pv 3) pa_nil))))) (pa_cons (pe_lst (pa_cons (pv 3) (pa_cons (pv 2) (pa_cons (pv 1) (pa_cons (pv 0) pa_nil))))) (pa_cons (pe_lst (pa_cons (pv 1) (pa_cons (pv 0) (pa_cons (pv 3) (pa_cons (pv 2) pa_nil))))) (pa_cons (pe_lst (pa_cons (pv 2) (pa_cons (pv 3) (pa_cons (pv 0) (pa_cons (pv 1) pa_nil))))) pa_nil)))))) (pg_name (i := 4) nd rfl (.inl rfl))
        (pss_cons (ps_set (i := 5) nd rfl (.inr rfl) (pe_least S L (hr.mono (by decide)) (by rfl) (pa_cons (pe_ix ix_list (pv 4) pe_int (fun _ _ => rfl)) (pa_cons (pe_ix ix_list (pv 4) pe_int (fun _ _ => rfl)) (pa_cons (pe_ix ix_list (pv 4) pe_int (fun _ _ => rfl)) (pa_cons (pe_ix ix_list (pv 4) pe_int (fun _ _ => rfl)) pa_nil))))))
          (pss_cons (ps_if (PW.pt (pw_or (pt_not (pt_val (pe_callB (cr_all rfl) (by rfl) T.b_all (by decide +kernel) (pa_cons (pe_lc (own := [("_law_one", 6)]) (g := gName 6) rfl nd (pi_list (pv 4)) (blkOk_by (own := [("_law_one", 6)]) (N := lrN) (sc := defScope sLeastR) (by decide +kernel)) (fun _ _ _ _ _ => (pg_name (i := 6) nd rfl (.inl rfl))) (fun _ _ _ _ _ => pts_nil) (fun _ _ _ _ _ => (pe_cmpR (op_lenLe L (hr.mono (by decide))) (pv 5) (pv 6) (nomark _)))) pa_nil)))) (pw_or1 (pt_cmpR (op_eqLen hr) (pe_lc (own := [("_law_one", 6)]) (g := gName 6) rfl nd (pi_list (pv 4)) (blkOk_by (own := [("_law_one", 6)]) (N := lrN) (sc := defScope sLeastR) (by decide +kernel)) (fun _ _ _ _ _ => (pg_name (i := 6) nd rfl (.inl rfl))) (fun _ _ _ _ _ => pts_one (pt_cmpR (op_lenEqK K L (hr.mono (by decide))) (pv 6) (pv 5) (nomark _))) (fun _ _ _ _ _ => (pv 6))) (pe_lst pa_nil) (nomark _)))))
            (pss_one (ps_ret pe_bl))
            pss_nil)
          (pss_cons (ps_if (pt_cmpR (op_lenNe L (hr.mono (by decide))) (pv 5) (pe_least S L (hr.mono (by decide)) (by rfl) (pa_cons (pe_least S L (hr.mono (by decide)) (by rfl) (pa_cons (pe_ix ix_list (pv 4) pe_int (fun _ _ => rfl)) (pa_cons (pe_ix ix_list (pv 4) pe_int (fun _ _ => rfl)) pa_nil))) (pa_cons (pe_least S L (hr.mono (by decide)) (by rfl) (pa_cons (pe_ix ix_list (pv 4) pe_int (fun _ _ => rfl)) (pa_cons (pe_ix ix_list (pv 4) pe_int (fun _ _ => rfl)) pa_nil))) pa_nil))) (nomark _))
            (pss_one (ps_ret pe_bl))
            pss_nil)
          (pss_cons (ps_if (PW.pt (pw_or (pt_cmpR (op_lenNe L (hr.mono (by decide))) (pe_leastI S L (hr.mono (by decide)) (pv 3) (pa_cons (pe_ix ix_list (pv 4) pe_int (fun _ _ => rfl)) (pa_cons (pe_ix ix_list (pv 4) pe_int (fun _ _ => rfl)) pa_nil))) (pe_least S L (hr.mono (by decide)) (by rfl) (pa_cons (pe_ix ix_list (pv 4) pe_int (fun _ _ => rfl)) (pa_cons (pe_ix ix_list (pv 4) pe_int (fun _ _ => rfl)) pa_nil))) (nomark _)) (pw_or1 (pt_cmpR (op_lenNe L (hr.mono (by decide))) (pe_leastI S L (hr.mono (by decide)) (pv 3) (pa_cons (pe_ix ix_list (pv 4) pe_int (fun _ _ => rfl)) pa_nil)) (pe_ix ix_list (pv 4) pe_int (fun _ _ => rfl)) (nomark _)))))
            (pss_one (ps_ret pe_bl))
            pss_nil)
          (pss_one (ps_if (PW.pt (pw_or (pt_cmpR (op_lenNe L (hr.mono (by decide))) (pe_least S L (hr.mono (by decide)) (by rfl) (pa_cons (pe_ix ix_list (pv 4) pe_int (fun _ _ => rfl)) pa_nil)) (pe_ix ix_list (pv 4) pe_int (fun _ _ => rfl)) (nomark _)) (pw_or1 (pt_cmpR (op_lenLt L (hr.mono (by decide))) (pe_least S L (hr.mono (by decide)) (by rfl) (pa_cons (pe_ix ix_list (pv 4) pe_int (fun _ _ => rfl)) (pa_cons (pe_ix ix_list (pv 4) pe_int (fun _ _ => rfl)) (pa_cons (pe_ix ix_list (pv 4) pe_int (fun _ _ => rfl)) pa_nil)))) (pv 5) (nomark _)))))
            (pss_one (ps_ret pe_bl))
            pss_nil)))))))
      (pss_one (ps_ret pe_bl))), ?_⟩
    refine ⟨_, rfl, _, rfl, _, rfl, _, rfl, (by show 4 ≤ sizeLine; decide), fun l1 h1 => ⟨_, rfl, _, rfl, _, rfl, _, rfl, (by show 4 ≤ sizeLine; decide), fun l2 h2 => ⟨_, rfl, _, rfl, _, rfl, _, rfl, (by show 4 ≤ sizeLine; decide), fun l3 h3 =>
      ⟨_, rfl, _, rfl, _, rfl, _, rfl, (by show 4 ≤ sizeLine; decide), fun l4 h4 => ⟨(by show 4 ≤ sizeLine; decide), fun t ht => ?_⟩⟩⟩⟩⟩
    refine ⟨t, rfl, ⟨_, SqT.of upd_same⟩, ?_⟩
    have g1 := same_upd (o := .lst [rf x, rf y, rf z, rf u]) (Same.refl H) h1
    have g2 := same_upd (o := .lst [rf u, rf z, rf y, rf x]) (Same.refl _) h2
    have g3 := same_upd (o := .lst [rf y, rf x, rf u, rf z]) (Same.refl _) h3
    have g4 := same_upd (o := .lst [rf z, rf u, rf x, rf y]) (Same.refl _) h4
    have g5 := same_upd (o := .tup [.ref l1, .ref l2, .ref l3, .ref l4]) (Same.refl _) ht
    have g := g1.trans (g2.trans (g3.trans (g4.trans g5)))
    obtain ⟨o1, o2, o3, o4⟩ := mem4 (ok.same g)
    have facts : ∀ v ∈ [V.ref l1, .ref l2, .ref l3, .ref l4], ∃ (l : Addr) (a b c d : PN), v = .ref l ∧ (upd (upd (upd (upd (upd H l1 (.lst [rf x, rf y, rf z, rf u])) l2 (.lst [rf u, rf z, rf y, rf x])) l3 (.lst [rf y, rf x, rf u, rf z])) l4 (.lst [rf z, rf u, rf x, rf y])) t (.tup [.ref l1, .ref l2, .ref l3, .ref l4])) l = some (.lst [rf a, rf b, rf c, rf d]) ∧
        okP C (upd (upd (upd (upd (upd H l1 (.lst [rf x, rf y, rf z, rf u])) l2 (.lst [rf u, rf z, rf y, rf x])) l3 (.lst [rf y, rf x, rf u, rf z])) l4 (.lst [rf z, rf u, rf x, rf y])) t (.tup [.ref l1, .ref l2, .ref l3, .ref l4])) [a, b, c, d] := by
      intro v hv
      simp at hv
      rcases hv with rfl | rfl | rfl | rfl
      · exact ⟨l1, x, y, z, u, rfl, g5 _ _ (g4 _ _ (g3 _ _ (g2 _ _ upd_same))), okP_of4 o1 o2 o3 o4⟩
      · exact ⟨l2, u, z, y, x, rfl, g5 _ _ (g4 _ _ (g3 _ _ upd_same)), okP_of4 o4 o3 o2 o1⟩
      · exact ⟨l3, y, x, u, z, rfl, g5 _ _ (g4 _ _ upd_same), okP_of4 o2 o1 o4 o3⟩
      · exact ⟨l4, z, u, x, y, rfl, g5 _ _ upd_same, okP_of4 o3 o4 o1 o2⟩
    have htt : (upd (upd (upd (upd (upd H l1 (.lst [rf x, rf y, rf z, rf u])) l2 (.lst [rf u, rf z, rf y, rf x])) l3 (.lst [rf y, rf x, rf u, rf z])) l4 (.lst [rf z, rf u, rf x, rf y])) t (.tup [.ref l1, .ref l2, .ref l3, .ref l4])) t = some (.tup [.ref l1, .ref l2, .ref l3, .ref l4]) := upd_same
    generalize upd (upd (upd (upd (upd H l1 (.lst [rf x, rf y, rf z, rf u])) l2 (.lst [rf u, rf z, rf y, rf x])) l3 (.lst [rf y, rf x, rf u, rf z])) l4 (.lst [rf z, rf u, rf x, rf y])) t (.tup [.ref l1, .ref l2, .ref l3, .ref l4]) = G at g5 g o1 o2 o3 o4 facts htt ⊢
    refine for_tup (K := K) (a := t) (xs := [.ref l1, .ref l2, .ref l3, .ref l4]) (fun _ σ H1 => ∃ v4 v5 v6, σ = [some (rf x), some (rf y), some (rf z), some (rf u), v4, v5, v6] ∧ Same G H1) ⟨_, _, _, rfl, Same.refl _⟩ (fun _ σ H1 _ ⟨_, _, _, _, s⟩ => SqT.of (s _ _ htt)) ?_ ?_
    · rintro i v σ H1 hi ⟨v4, v5, v6, rfl, s1⟩
      obtain ⟨l, a, b, c, d, rfl, hl0, okq⟩ := facts v (List.mem_of_getElem? hi)
      have hl := s1 _ _ hl0
      obtain ⟨qa, qb, qc, qd⟩ := mem4 (okq.same s1)
      -- found = least(some[0], .., some[3])
      refine ⟨rfl, _, rfl, l, _, _, _, rfl, rfl, SqL.of hl, atI_nat (j := 0) rfl, _, rfl, l, _, _, _, rfl, rfl, SqL.of hl, atI_nat (j := 1) rfl, _, rfl, l, _, _, _, rfl, rfl, SqL.of hl, atI_nat (j := 2) rfl, _, rfl, l, _, _, _, rfl, rfl, SqL.of hl, atI_nat (j := 3) rfl,
        a, [b, c, d], rfl, by simp, okq.same s1, fun r0 H2 e2 m2 => ?_⟩
      have im : IsMin (mnL a.2 [b.2, c.2, d.2]) [a.2, b.2, c.2, d.2] := mnL_min _ _
      have m2' : LenAt C H2 r0 (mnL a.2 [b.2, c.2, d.2]) := m2
      generalize hM : mnL a.2 [b.2, c.2, d.2] = M at im m2'
      have hl2 := e2 _ _ hl
      have s2 := s1.trans e2
      clear m2
      try dsimp only [tNext]
      -- if not all([found <= one ..]) or [one .. if one == found] == []
      refine seq_rest (fun σ1 H1 => σ1 = [some (rf x), some (rf y), some (rf z), some (rf u), some (.ref l), some (.ref r0), v6] ∧ Same H2 H1) ?_ (fun rest => ?_)
      rotate_left
      · refine ⟨_, rfl, l, rfl, ⟨_, SqL.of hl2⟩, fun D hD => ?_⟩
        refine lc_list (K := K) (a := l) (xs := [a, b, c, d].map rf) (fun i H1 => H1 D = some (.lst (List.replicate i (.bl true))) ∧ Same H2 H1) ⟨upd_same, same_upd (Same.refl _) hD⟩ (fun i H1 _ ⟨_, s⟩ => SqL.of (s _ _ hl2)) ?_ ?_
        · rintro i v H1 hx ⟨e1, s⟩
          obtain ⟨q, hq1, rfl⟩ := rf_at hx
          have hi2 : i < 4 := (List.getElem?_eq_some_iff.mp hq1).1
          have hqm := List.mem_of_getElem? hq1
          have hle : relN (fun i j => decide (i ≤ j)) M q.2 = true := im.le q.2 (List.mem_map_of_mem (f := (·.2)) hqm)
          refine ⟨rfl, _, rfl, _, rfl, r0, q.1, M, q.2, rfl, rfl, m2'.same s, ((okq.same s2) q hqm).same s, ?_⟩
          rw [hle]
          refine ⟨_, e1, small1000 (by rw [List.length_replicate]; omega), ?_, same_upd s hD⟩
          rw [upd_same, List.replicate_succ']
        · rintro H1 ⟨e1, s⟩
          have el : (List.replicate ([a, b, c, d].map rf).length true).all id = true := by simp
          refine ⟨D, List.replicate ([a, b, c, d].map rf).length true, rfl, SqL.of (by rw [List.map_replicate]; exact e1), _, rfl, ?_⟩
          rw [el]
          refine iteF ⟨_, rfl, l, rfl, ⟨_, SqL.of (s _ _ hl2)⟩, fun D2 hD2 => ?_⟩
          refine lc_list (K := K) (a := l) (xs := [a, b, c, d].map rf) (fun i H3 => ∃ acc : List V, H3 D2 = some (.lst acc) ∧ acc.length ≤ i ∧ Same H1 H3 ∧ ((∃ j q, j < i ∧ [a, b, c, d][j]? = some q ∧ q.2 = M) → acc ≠ []))
            ⟨[], upd_same, Nat.le_refl _, same_upd (Same.refl _) hD2, fun ⟨j, q, hj, _⟩ => absurd hj (Nat.not_lt_zero _)⟩ (fun i H3 _ ⟨_, _, _, s3, _⟩ => SqL.of (s3 _ _ (s _ _ hl2))) ?_ ?_
          · rintro i v H3 hx ⟨acc, e3, hlen, s3, ne⟩
            obtain ⟨q, hq1, rfl⟩ := rf_at hx
            have hi2 : i < 4 := (List.getElem?_eq_some_iff.mp hq1).1
            have hqm := List.mem_of_getElem? hq1
            refine ⟨rfl, _, rfl, _, rfl, q.1, q.2, rfl, (((okq.same s2) q hqm).same s).same s3, .inl ⟨r0, M, rfl, (m2'.same s).same s3, _, rfl, ?_⟩⟩
            refine ite2 (fun c0 => ?_) (fun c0 => ?_)
            · refine ⟨_, rfl, acc, e3, small1000 (by omega), acc ++ [rf q], upd_same, by rw [List.length_append]; exact Nat.succ_le_succ hlen, same_upd s3 hD2, fun _ z => by simp at z⟩
            · refine ⟨acc, e3, Nat.le_succ_of_le hlen, s3, fun ⟨j, q', hj, hjq, hm⟩ => ?_⟩
              rcases Nat.lt_succ_iff_lt_or_eq.mp hj with hj | hj
              · exact ne ⟨j, q', hj, hjq, hm⟩
              · subst hj
                rw [hq1] at hjq
                cases hjq
                exact absurd (decide_eq_true hm) c0
          · rintro H3 ⟨acc, e3, hlen, s3, ne⟩
            have hne : acc ≠ [] := by
              refine ne ?_
              obtain ⟨q, hq, e⟩ := List.mem_map.mp (show M ∈ [a, b, c, d].map (·.2) from im.mem)
              obtain ⟨j, hj, e'⟩ := List.getElem_of_mem hq
              exact ⟨j, q, hj, by rw [List.getElem?_eq_getElem hj, e'], e⟩
            refine ⟨(by show 0 ≤ sizeLine; decide), fun p hp => ?_⟩
            have s4 : Same H3 (upd H3 p (.lst [])) := same_upd (Same.refl _) hp
            refine ⟨D2, p, acc, [], rfl, rfl, s4 _ _ e3, upd_same, fun z => hne (List.length_eq_zero_iff.mp z), _, rfl, ?_⟩
            exact iteF (rest _ _ ⟨rfl, s.trans (s3.trans s4)⟩)
      rintro σ1 H3 ⟨rfl, e3⟩
      have hl3 := e3 _ _ hl2
      have m3 := m2'.same e3
      have s3 := s2.trans e3
      have ok3 := okq.same s3
      obtain ⟨ta, tb, tc, td⟩ := mem4 ok3
      clear s1 hl qa qb qc qd hl2 m2' s2 e2 e3
      try dsimp only [tNext]
      -- if found != least(least(some[0], some[1]), least(some[2], some[3]))
      refine ⟨_, rfl, rfl, rfl, _, rfl, l, _, _, _, rfl, rfl, SqL.of hl3, atI_nat (j := 0) rfl, _, rfl, l, _, _, _, rfl, rfl, SqL.of hl3, atI_nat (j := 1) rfl, a, [b], rfl, by simp, okP_of2 ta tb, fun r1 H4 e4 m4 => ?_⟩
      have hl4 := e4 _ _ hl3
      refine ⟨rfl, _, rfl, l, _, _, _, rfl, rfl, SqL.of hl4, atI_nat (j := 2) rfl, _, rfl, l, _, _, _, rfl, rfl, SqL.of hl4, atI_nat (j := 3) rfl, c, [d], rfl, by simp, okP_of2 (tc.same e4) (td.same e4), fun r2 H5 e5 m5 => ?_⟩
      refine ⟨(r1, mnL a.2 [b.2]), [(r2, mnL c.2 [d.2])], rfl, by simp, okP_of2 (m4.same e5) m5, fun r3 H6 e6 m6 => ?_⟩
      have e46 := e4.trans (e5.trans e6)
      have eqM : M = mnL (mnL a.2 [b.2]) [mnL c.2 [d.2]] := by
        have i1 := mnL_min [b.2] a.2
        have i2 := mnL_min [d.2] c.2
        have i3 := mnL_min [mnL c.2 [d.2]] (mnL a.2 [b.2])
        have mem3 := i3.mem
        have mem1 := i1.mem
        have mem2 := i2.mem
        simp at mem1 mem2
        refine leB_anti (im.le _ ?_) ?_
        · simp at mem3
          rcases mem3 with z | z <;> rw [z]
          · rcases mem1 with z | z <;> rw [z] <;> simp
          · rcases mem2 with z | z <;> rw [z] <;> simp
        · have h1 := i3.le (mnL a.2 [b.2]) (by simp)
          have h2 := i3.le (mnL c.2 [d.2]) (by simp)
          have hm := im.mem
          simp at hm
          rcases hm with z | z | z | z <;> rw [z]
          · exact leB_trans h1 (i1.le _ (by simp))
          · exact leB_trans h1 (i1.le _ (by simp))
          · exact leB_trans h2 (i2.le _ (by simp))
          · exact leB_trans h2 (i2.le _ (by simp))
      refine ⟨r0, r3, M, _, rfl, rfl, m3.same e46, m6, _, rfl, iteNS eqM ?_⟩
      have hl6 := e46 _ _ hl3
      have m6' := m3.same e46
      have s6 := s3.trans e46
      obtain ⟨va, vb, vc, vd⟩ := mem4 (ok3.same e46)
      have du := o4.same s6
      clear m6 m5 m4 hl4 e4 e5 e6 e46 hl3 m3 s3 ok3 ta tb tc td eqM
      try dsimp only [tNext]
      -- if d.least(some[0], some[1]) != least(some[0], some[1]) or d.least(some[0]) != some[0]
      obtain ⟨dxu, ru, hu1, hu2⟩ := id du
      refine ⟨_, rfl, u.1, dxu, _, rfl, hu1, lenF_no _ _ (by decide +kernel) (by decide +kernel), _, rfl, l, _, _, _, rfl, rfl, SqL.of hl6, atI_nat (j := 0) rfl, _, rfl, l, _, _, _, rfl, rfl, SqL.of hl6, atI_nat (j := 1) rfl, a, [b], rfl, by simp, okP_of2 va vb, fun r4 H7 e7 m7 => ?_⟩
      have hl7 := e7 _ _ hl6
      refine ⟨rfl, _, rfl, l, _, _, _, rfl, rfl, SqL.of hl7, atI_nat (j := 0) rfl, _, rfl, l, _, _, _, rfl, rfl, SqL.of hl7, atI_nat (j := 1) rfl, a, [b], rfl, by simp, okP_of2 (va.same e7) (vb.same e7), fun r5 H8 e8 m8 => ?_⟩
      refine ⟨r4, r5, _, _, rfl, rfl, m7.same e8, m8, _, rfl, iteNS rfl ?_⟩
      have e78 := e7.trans e8
      have hl8 := e78 _ _ hl6
      refine ⟨_, rfl, u.1, dxu, _, rfl, e78 _ _ hu1, lenF_no _ _ (by decide +kernel) (by decide +kernel), _, rfl, l, _, _, _, rfl, rfl, SqL.of hl8, atI_nat (j := 0) rfl, a, [], rfl, by simp, okP_of1 (va.same e78), fun r6 H9 e9 m9 => ?_⟩
      have e79 := e78.trans e9
      have hl9 := e79 _ _ hl6
      refine ⟨_, rfl, l, _, _, _, rfl, rfl, SqL.of hl9, atI_nat (j := 0) rfl, r6, a.1, _, _, rfl, rfl, m9, va.same e79, _, rfl, iteNS rfl ?_⟩
      try dsimp only [tNext]
      -- if least(some[0]) != some[0] or least(some[0], some[1], some[2]) < found
      refine ⟨rfl, _, rfl, l, _, _, _, rfl, rfl, SqL.of hl9, atI_nat (j := 0) rfl, a, [], rfl, by simp, okP_of1 (va.same e79), fun r7 G1 f1 n1 => ?_⟩
      have e1' := e79.trans f1
      have hlA := e1' _ _ hl6
      refine ⟨_, rfl, l, _, _, _, rfl, rfl, SqL.of hlA, atI_nat (j := 0) rfl, r7, a.1, _, _, rfl, rfl, n1, va.same e1', _, rfl, iteNS rfl ?_⟩
      refine ⟨rfl, _, rfl, l, _, _, _, rfl, rfl, SqL.of hlA, atI_nat (j := 0) rfl, _, rfl, l, _, _, _, rfl, rfl, SqL.of hlA, atI_nat (j := 1) rfl, _, rfl, l, _, _, _, rfl, rfl, SqL.of hlA, atI_nat (j := 2) rfl, a, [b, c], rfl, by simp, okP_of3 (va.same e1') (vb.same e1') (vc.same e1'), fun r8 G2 f2 n2 => ?_⟩
      have e2' := e1'.trans f2
      have lt0 : relN (fun i j => decide (i < j)) (mnL a.2 [b.2, c.2]) M = false := by
        show ltB (mnL a.2 [b.2, c.2]) M = false
        rw [ltB_not]
        have i1 := mnL_min [b.2, c.2] a.2
        have mem1 := i1.mem
        simp at mem1
        have : leB M (mnL a.2 [b.2, c.2]) = true := im.le _ (by rcases mem1 with z | z | z <;> rw [z] <;> simp)
        rw [this]
        rfl
      refine ⟨_, rfl, r8, r0, _, M, rfl, rfl, n2, m6'.same e2', _, rfl, ?_⟩
      have lt1 : relN (fun i j => decide (i < j)) (mnL a.2 (List.map (·.2) [b, c])) M = false := lt0
      rw [lt1]
      exact iteF ⟨_, _, _, rfl, s6.trans e2'⟩
    · rintro σ H1 ⟨v4, v5, v6, rfl, s1⟩
      exact k H1 (g.trans s1)
end
end Tg

namespace Tg
open PySem L2 Ow
def okN (n : Nm) : Prop := ∀ i, n = some i → 0 ≤ i ∧ i ≤ 1000000000
theorem okN_none : okN none := fun _ z => nomatch z
theorem okN_some {i : Int} (h0 : 0 ≤ i) (h1 : i ≤ 1000000000) : okN (some i) := fun j z => by cases z; exact ⟨h0, h1⟩
def spLength (C : Addr) : Sp := fun vs H Q _ => ∃ b L, vs = [.ref b] ∧ Box b L H ∧ ∀ n p H', okN n → LenAt C H' p n → Box b L H' → Kp b L H H' → Q (.ref p) H'
section
variable {P : Program} {w : World} {K : PySem.W.Frag} {mg : Str → Option Value} {base : Heap} {C : Addr}
theorem scLength : FnScope ["_law_box_here", "_law_near", "_law_some", "_law_form"] ["_law_box_here"] (defScope sLength) := ⟨rfl, rfl, rfl, by decide +kernel, rfl, by decide +kernel, by decide +kernel⟩
theorem ok_length {f : Addr} {fd : FuncData} (F : Fun K "_law_length" "_law_length" sLength f fd) (L : LF P w K mg base C) (cTake : Cal P w K mg base 1 "_law_take" ["_law_box_here", "_law_many"] spTake) : FnOk P w K mg base CX0 4 f fd ["_law_box_here"] (spLength C) := by
  refine F.ok scLength (fun vs H Q E h => ?_) (fun cdv A outer s H vs Q E hr h => ?_)
  · obtain ⟨b, L, rfl, _⟩ := h
    rfl
  · obtain ⟨b, L0, rfl, B, k⟩ := h
    have nd := scLength.nd
    refine ⟨_, (pss_cons (ps_set (i := 1) nd rfl (.inl rfl) (pe_cal cTake (hr.mono (by decide)) (by rfl) (pa_cons (pv 0) (pa_cons pe_int pa_nil))))
      (pss_cons (ps_set (i := 2) nd rfl (.inl rfl) (pe_lst (pa_cons (pv 1) (pa_cons (pe_op op_sub pe_int (pv 1)) (pa_cons (pe_cal cTake (hr.mono (by decide)) (by rfl) (pa_cons (pv 0) (pa_cons pe_int pa_nil))) (pa_cons (pe_op op_add (pe_op op_pow pe_int pe_int) (pv 1)) (pa_cons (pe_cal cTake (hr.mono (by decide)) (by rfl) (pa_cons (pv 0) (pa_cons (pe_op op_pow pe_int pe_int) pa_nil))) pa_nil)))))))
      (pss_cons (ps_set (i := 3) nd rfl (.inl rfl) (pe_cal cTake (hr.mono (by decide)) (by rfl) (pa_cons (pv 0) (pa_cons pe_int pa_nil))))
      (pss_one (ps_ret (pe_ifExp (pt_cmpR op_eq (pv 3) pe_int (nomark _)) (pe_free L (hr.mono (by decide)) (by rfl)) (pe_len L (hr.mono (by decide)) (by rfl) (pa_cons (pe_ix ix_list (pv 2) (pv 3) (fun _ _ => rfl)) pa_nil)))))))), ?_⟩
    refine ⟨_, rfl, b, L0, 4, rfl, by decide, by decide +kernel, B, fun d1 H1 a1 c1 B1 k1 => ?_⟩
    refine ⟨_, rfl, _, rfl, _, _, rfl, rfl, _, rfl, b, L0, 101, rfl, by decide, by decide +kernel, B1, fun d2 H2 a2 c2 B2 k2 => ?_⟩
    refine ⟨_, _, rfl, rfl, ⟨by decide, by decide, by decide⟩, _, rfl, _, _, rfl, rfl, _, rfl, _, _, rfl, rfl, ⟨by decide, by decide, by decide⟩, b, L0, _, rfl, by decide, by decide +kernel, B2, fun d3 H3 a3 c3 B3 k3 => ?_⟩
    refine ⟨(by show 5 ≤ sizeLine; decide), fun p hp => ?_⟩
    obtain ⟨np1, np2⟩ := B3.apart hp
    refine ⟨_, rfl, b, L0, 6, rfl, by decide, by decide +kernel, B3.new hp, fun d4 H4 a4 c4 B4 k4 => ?_⟩
    have hl := k4 p _ np1 np2 upd_same
    have kk : Kp b L0 H H4 := (k1.trans (k2.trans k3)).trans ((Kp.refl b L0 H3).new hp |>.trans k4)
    have c3' : d3 < 100000000 := c3
    have fin : ∀ n, okN n → newLen C H4 n Q := fun n hn p' H5 hp' s5 l5 => k n p' H5 hn l5 (B4.same s5) (fun a u n1 n2 e => s5 _ _ (kk a u n1 n2 e))
    rcases (by omega : d4 = 0 ∨ d4 = 1 ∨ d4 = 2 ∨ d4 = 3 ∨ d4 = 4 ∨ d4 = 5) with rfl | rfl | rfl | rfl | rfl | rfl
    · exact ⟨_, rfl, rfl, _, rfl, iteF ⟨_, rfl, _, rfl, p, _, _, _, rfl, rfl, SqL.of hl, atI_nat (j := 0) rfl, mk_len (n := some d1) (fin _ (okN_some (by omega) (by omega)))⟩⟩
    · exact ⟨_, rfl, rfl, _, rfl, iteF ⟨_, rfl, _, rfl, p, _, _, _, rfl, rfl, SqL.of hl, atI_nat (j := 1) rfl, mk_len (n := some (40 - d1)) (fin _ (okN_some (by omega) (by omega)))⟩⟩
    · exact ⟨_, rfl, rfl, _, rfl, iteF ⟨_, rfl, _, rfl, p, _, _, _, rfl, rfl, SqL.of hl, atI_nat (j := 2) rfl, mk_len (n := some d2) (fin _ (okN_some (by omega) (by omega)))⟩⟩
    · exact ⟨_, rfl, rfl, _, rfl, iteF ⟨_, rfl, _, rfl, p, _, _, _, rfl, rfl, SqL.of hl, atI_nat (j := 3) rfl, mk_len (n := some (100000000 + d1)) (fin _ (okN_some (by omega) (by omega)))⟩⟩
    · exact ⟨_, rfl, rfl, _, rfl, iteF ⟨_, rfl, _, rfl, p, _, _, _, rfl, rfl, SqL.of hl, atI_nat (j := 4) rfl, mk_len (n := some d3) (fin _ (okN_some (by omega) (by omega)))⟩⟩
    · exact ⟨_, rfl, rfl, _, rfl, iteT ⟨rfl, rfl, fin _ okN_none⟩⟩
end
end Tg

namespace Tg
open PySem L2 Ow
theorem LenAt.lst {C p R : Addr} {H : Hp} {n : Nm} {xs : List V} {o : HO} (h : LenAt C H p n) (e : H R = some (.lst xs)) : LenAt C (upd H R o) p n := by
  obtain ⟨dx, r, h1, h2⟩ := h
  exact ⟨dx, r, by rw [upd_ne (ne_of h1 e (by intro z; cases z))]; exact h1, by rw [upd_ne (ne_of h2 e (by intro z; cases z))]; exact h2⟩
def spManyR (C : Addr) : Sp := fun vs H Q _ => ∃ (l : Addr) (L : List PN), vs = [.ref l] ∧ H l = some (.lst (L.map rf)) ∧ L.length = 8 ∧ okP C H L ∧ ∀ H', Same H H' → Q (.bl true) H'
abbrev mrN : List Str := ["_law_some", "_law_rows", "_law_at", "_law_found", "_law_few", "_law_one"]
theorem scManyR : FnScope mrN ["_law_some"] (defScope sManyR) := ⟨rfl, rfl, rfl, by decide +kernel, rfl, by decide +kernel, by decide +kernel⟩
theorem cut_few {L : List PN} {i : Nat} : cutV (L.map rf) none (some (5 + (i : Int))) = (L.take (5 + i)).map rf := by
  unfold cutV
  have e : (5 + (i : Int)) = ((5 + i : Nat) : Int) := by omega
  rw [e, HT.sIx_nat, HT.sIx_none, List.drop_zero, Nat.sub_zero, List.length_map, ← List.map_take]
  congr 1
  rw [Nat.min_def]
  split
  · rfl
  · rw [List.take_of_length_le (Nat.le_refl _), List.take_of_length_le (by omega)]
section
variable {P : Program} {w : World} {K : PySem.W.Frag} {mg : Str → Option Value} {base : Heap} {C : Addr}
theorem ok_manyR {f : Addr} {fd : FuncData} (F : Fun K "_law_many_right" "_law_many_right" sManyR f fd) (T : TxtA mg) (L : LF P w K mg base C) (S : LS P w K mg base C) : FnOk P w K mg base CX0 4 f fd ["_law_some"] (spManyR C) := by
  refine F.ok scManyR (fun vs H Q E h => ?_) (fun cdv A outer s H vs Q E hr h => ?_)
  · obtain ⟨l, L, rfl, _⟩ := h
    rfl
  · obtain ⟨l, Ls, rfl, hl, hn, ok, k⟩ := h
    have nd := scManyR.nd
    refine ⟨_, (pss_cons (ps_set (i := 1) nd rfl (.inl rfl) (pe_lst (pa_cons (pe_least S L (hr.mono (by decide)) (by rfl) (pa_cons (pe_ix ix_list (pv 0) pe_int (fun _ _ => rfl)) (pa_cons (pe_ix ix_list (pv 0) pe_int (fun _ _ => rfl)) (pa_cons (pe_ix ix_list (pv 0) pe_int (fun _ _ => rfl)) (pa_cons (pe_ix ix_list (pv 0) pe_int (fun _ _ => rfl)) (pa_cons (pe_ix ix_list (pv 0) pe_int (fun _ _ => rfl)) pa_nil)))))) pa_nil)))
      (pss_cons (ps_expr (pe_bm PySem.F.plainAttrs_list PySem.F.slot_list_append PySem.F.type_list_append mt_append (pv 1) (pa_cons (pe_least S L (hr.mono (by decide)) (by rfl) (pa_cons (pe_ix ix_list (pv 0) pe_int (fun _ _ => rfl)) (pa_cons (pe_ix ix_list (pv 0) pe_int (fun _ _ => rfl)) (pa_cons (pe_ix ix_list (pv 0) pe_int (fun _ _ => rfl)) (pa_cons (pe_ix ix_list (pv 0) pe_int (fun _ _ => rfl)) (pa_cons (pe_ix ix_list (pv 0) pe_int (fun _ _ => rfl)) (pa_cons (pe_ix ix_list (pv 0) pe_int (fun _ _ => rfl)) pa_nil))))))) pa_nil)))
      (pss_cons (ps_expr (pe_bm PySem.F.plainAttrs_list PySem.F.slot_list_append PySem.F.type_list_append mt_append (pv 1) (pa_cons (pe_least S L (hr.mono (by decide)) (by rfl) (pa_cons (pe_ix ix_list (pv 0) pe_int (fun _ _ => rfl)) (pa_cons (pe_ix ix_list (pv 0) pe_int (fun _ _ => rfl)) (pa_cons (pe_ix ix_list (pv 0) pe_int (fun _ _ => rfl)) (pa_cons (pe_ix ix_list (pv 0) pe_int (fun _ _ => rfl)) (pa_cons (pe_ix ix_list (pv 0) pe_int (fun _ _ => rfl)) (pa_cons (pe_ix ix_list (pv 0) pe_int (fun _ _ => rfl)) (pa_cons (pe_ix ix_list (pv 0) pe_int (fun _ _ => rfl)) pa_nil)))))))) pa_nil)))
      (pss_cons (ps_expr (pe_bm PySem.F.plainAttrs_list PySem.F.slot_list_append PySem.F.type_list_append mt_append (pv 1) (pa_cons (pe_least S L (hr.mono (by decide)) (by rfl) (pa_cons (pe_ix ix_list (pv 0) pe_int (fun _ _ => rfl)) (pa_cons (pe_ix ix_list (pv 0) pe_int (fun _ _ => rfl)) (pa_cons (pe_ix ix_list (pv 0) pe_int (fun _ _ => rfl)) (pa_cons (pe_ix ix_list (pv 0) pe_int (fun _ _ => rfl)) (pa_cons (pe_ix ix_list (pv 0) pe_int (fun _ _ => rfl)) (pa_cons (pe_ix ix_list (pv 0) pe_int (fun _ _ => rfl)) (pa_cons (pe_ix ix_list (pv 0) pe_int (fun _ _ => rfl)) (pa_cons (pe_ix ix_list (pv 0) pe_int (fun _ _ => rfl)) pa_nil))))))))) pa_nil)))
      (pss_cons (ps_for PassesOwn.never rfl (pi_enum (by rfl) T.b_enumerate (pa_cons (pv 1) pa_nil)) (pg_tup (by rfl) (pgs_cons (pg_name (i := 2) nd rfl (.inl rfl)) (pgs_cons (pg_name (i := 3) nd rfl (.inr rfl)) pgs_nil)))
        (pss_cons (ps_set (i := 4) nd rfl (.inl rfl) (pe_slice sl_list (pv 0) po_none (po_some (pe_op op_add pe_int (pv 2)))))
          (pss_one (ps_if (PW.pt (pw_or (pt_not (pt_val (pe_callB (cr_all rfl) (by rfl) T.b_all (by decide +kernel) (pa_cons (pe_lc (own := [("_law_one", 5)]) (g := gName 5) rfl nd (pi_list (pv 4)) (blkOk_by (own := [("_law_one", 5)]) (N := mrN) (sc := defScope sManyR) (by decide +kernel)) (fun _ _ _ _ _ => (pg_name (i := 5) nd rfl (.inl rfl))) (fun _ _ _ _ _ => pts_nil) (fun _ _ _ _ _ => (pe_cmpR (op_lenLe L (hr.mono (by decide))) (pv 3) (pv 5) (nomark _)))) pa_nil)))) (pw_or1 (pt_cmpR (op_eqLen hr) (pe_lc (own := [("_law_one", 5)]) (g := gName 5) rfl nd (pi_list (pv 4)) (blkOk_by (own := [("_law_one", 5)]) (N := mrN) (sc := defScope sManyR) (by decide +kernel)) (fun _ _ _ _ _ => (pg_name (i := 5) nd rfl (.inl rfl))) (fun _ _ _ _ _ => pts_one (pt_cmpR (op_lenEqK K L (hr.mono (by decide))) (pv 5) (pv 3) (nomark _))) (fun _ _ _ _ _ => (pv 5))) (pe_lst pa_nil) (nomark _)))))
            (pss_one (ps_ret pe_bl))
            pss_nil))))
      (pss_one (ps_ret pe_bl))))))), ?_⟩
    obtain ⟨p0, p1, p2, p3, p4, p5, p6, p7, rfl⟩ : ∃ p0 p1 p2 p3 p4 p5 p6 p7, Ls = [p0, p1, p2, p3, p4, p5, p6, p7] := by
      match Ls, hn with
      | [p0, p1, p2, p3, p4, p5, p6, p7], _ => exact ⟨p0, p1, p2, p3, p4, p5, p6, p7, rfl⟩
    have sub : ∀ (n : Nat) {H' : Hp}, Same H H' → okP C H' (p0 :: [p1, p2, p3, p4, p5, p6, p7].take n) := fun n H' s y hy => (ok.same s) y (by
      rcases List.mem_cons.mp hy with h | h
      · rw [h]; simp
      · exact List.mem_cons_of_mem _ (List.mem_of_mem_take h))
    refine ⟨rfl, _, rfl, l, _, _, _, rfl, rfl, SqL.of hl, atI_nat (j := 0) rfl, _, rfl, l, _, _, _, rfl, rfl, SqL.of hl, atI_nat (j := 1) rfl, _, rfl, l, _, _, _, rfl, rfl, SqL.of hl, atI_nat (j := 2) rfl, _, rfl, l, _, _, _, rfl, rfl, SqL.of hl, atI_nat (j := 3) rfl, _, rfl, l, _, _, _, rfl, rfl, SqL.of hl, atI_nat (j := 4) rfl, p0, [p1, p2, p3, p4], rfl, by simp, sub 4 (Same.refl H), fun r0 H1 e1 m1 => ⟨(by show 1 ≤ sizeLine; decide), fun R hR => ?_⟩⟩
    have t1 : Same H1 (upd H1 R (.lst [V.ref r0])) := same_upd (Same.refl _) hR
    have hl1 := (e1.trans t1) _ _ hl
    refine ⟨_, rfl, .inl ⟨rfl, _, SqL.of upd_same⟩, rfl, _, rfl, l, _, _, _, rfl, rfl, SqL.of hl1, atI_nat (j := 0) rfl, _, rfl, l, _, _, _, rfl, rfl, SqL.of hl1, atI_nat (j := 1) rfl, _, rfl, l, _, _, _, rfl, rfl, SqL.of hl1, atI_nat (j := 2) rfl, _, rfl, l, _, _, _, rfl, rfl, SqL.of hl1, atI_nat (j := 3) rfl, _, rfl, l, _, _, _, rfl, rfl, SqL.of hl1, atI_nat (j := 4) rfl, _, rfl, l, _, _, _, rfl, rfl, SqL.of hl1, atI_nat (j := 5) rfl, p0, [p1, p2, p3, p4, p5], rfl, by simp, sub 5 (e1.trans t1), fun r1 H2 e2 m2 => ?_⟩
    have hR2 := e2 _ _ upd_same
    refine ⟨R, _, _, rfl, rfl, hR2, small1000 (by show 1 ≤ 1000; decide), ?_⟩
    try dsimp only
    have t2 : Same H1 (upd H2 R (.lst ([V.ref r0] ++ [V.ref r1]))) := same_upd (t1.trans e2) hR
    have hl2 := (e1.trans t2) _ _ hl
    have n2 : LenAt C (upd H2 R (.lst ([V.ref r0] ++ [V.ref r1]))) r1 _ := LenAt.lst m2 hR2
    refine ⟨_, rfl, .inl ⟨rfl, _, SqL.of upd_same⟩, rfl, _, rfl, l, _, _, _, rfl, rfl, SqL.of hl2, atI_nat (j := 0) rfl, _, rfl, l, _, _, _, rfl, rfl, SqL.of hl2, atI_nat (j := 1) rfl, _, rfl, l, _, _, _, rfl, rfl, SqL.of hl2, atI_nat (j := 2) rfl, _, rfl, l, _, _, _, rfl, rfl, SqL.of hl2, atI_nat (j := 3) rfl, _, rfl, l, _, _, _, rfl, rfl, SqL.of hl2, atI_nat (j := 4) rfl, _, rfl, l, _, _, _, rfl, rfl, SqL.of hl2, atI_nat (j := 5) rfl, _, rfl, l, _, _, _, rfl, rfl, SqL.of hl2, atI_nat (j := 6) rfl, p0, [p1, p2, p3, p4, p5, p6], rfl, by simp, sub 6 (e1.trans t2), fun r2 H3 e3 m3 => ?_⟩
    have hR3 := e3 _ _ upd_same
    refine ⟨R, _, _, rfl, rfl, hR3, small1000 (by show 2 ≤ 1000; decide), ?_⟩
    try dsimp only
    have t3 : Same H1 (upd H3 R (.lst (([V.ref r0] ++ [V.ref r1]) ++ [V.ref r2]))) := same_upd (t2.trans e3) hR
    have hl3 := (e1.trans t3) _ _ hl
    have n3 : LenAt C (upd H3 R (.lst (([V.ref r0] ++ [V.ref r1]) ++ [V.ref r2]))) r2 _ := LenAt.lst m3 hR3
    have n2' : LenAt C (upd H3 R (.lst (([V.ref r0] ++ [V.ref r1]) ++ [V.ref r2]))) r1 _ := LenAt.lst (n2.same e3) hR3
    refine ⟨_, rfl, .inl ⟨rfl, _, SqL.of upd_same⟩, rfl, _, rfl, l, _, _, _, rfl, rfl, SqL.of hl3, atI_nat (j := 0) rfl, _, rfl, l, _, _, _, rfl, rfl, SqL.of hl3, atI_nat (j := 1) rfl, _, rfl, l, _, _, _, rfl, rfl, SqL.of hl3, atI_nat (j := 2) rfl, _, rfl, l, _, _, _, rfl, rfl, SqL.of hl3, atI_nat (j := 3) rfl, _, rfl, l, _, _, _, rfl, rfl, SqL.of hl3, atI_nat (j := 4) rfl, _, rfl, l, _, _, _, rfl, rfl, SqL.of hl3, atI_nat (j := 5) rfl, _, rfl, l, _, _, _, rfl, rfl, SqL.of hl3, atI_nat (j := 6) rfl, _, rfl, l, _, _, _, rfl, rfl, SqL.of hl3, atI_nat (j := 7) rfl, p0, [p1, p2, p3, p4, p5, p6, p7], rfl, by simp, sub 7 (e1.trans t3), fun r3 H4 e4 m4 => ?_⟩
    have hR4 := e4 _ _ upd_same
    refine ⟨R, _, _, rfl, rfl, hR4, small1000 (by show 3 ≤ 1000; decide), ?_⟩
    try dsimp only
    have t4 : Same H1 (upd H4 R (.lst ((([V.ref r0] ++ [V.ref r1]) ++ [V.ref r2]) ++ [V.ref r3]))) := same_upd (t3.trans e4) hR
    have n4 : LenAt C (upd H4 R (.lst ((([V.ref r0] ++ [V.ref r1]) ++ [V.ref r2]) ++ [V.ref r3]))) r3 _ := LenAt.lst m4 hR4
    have n3' : LenAt C (upd H4 R (.lst ((([V.ref r0] ++ [V.ref r1]) ++ [V.ref r2]) ++ [V.ref r3]))) r2 _ := LenAt.lst (n3.same e4) hR4
    have n2'' : LenAt C (upd H4 R (.lst ((([V.ref r0] ++ [V.ref r1]) ++ [V.ref r2]) ++ [V.ref r3]))) r1 _ := LenAt.lst (n2'.same e4) hR4
    have n1 := LenAt.same m1 t4
    have g := e1.trans t4
    have hlG := g _ _ hl
    have hRG : (upd H4 R (.lst ((([V.ref r0] ++ [V.ref r1]) ++ [V.ref r2]) ++ [V.ref r3]))) R = some (.lst [V.ref r0, V.ref r1, V.ref r2, V.ref r3]) := upd_same
    have okG := ok.same g
    have subG : ∀ n, okP C (upd H4 R (.lst ((([V.ref r0] ++ [V.ref r1]) ++ [V.ref r2]) ++ [V.ref r3]))) (p0 :: [p1, p2, p3, p4, p5, p6, p7].take n) := fun n => sub n g
    generalize upd H4 R (.lst ((([V.ref r0] ++ [V.ref r1]) ++ [V.ref r2]) ++ [V.ref r3])) = G at g n1 n2'' n3' n4 hlG hRG okG subG ⊢
    have facts : ∀ i x, [V.ref r0, V.ref r1, V.ref r2, V.ref r3][i]? = some x → ∃ r, x = .ref r ∧ LenAt C G r (mnL p0.2 (([p1, p2, p3, p4, p5, p6, p7].take (4 + i)).map (·.2))) := by
      intro i x hx
      match i, hx with
      | 0, hx => cases hx; exact ⟨r0, rfl, n1⟩
      | 1, hx => cases hx; exact ⟨r1, rfl, n2''⟩
      | 2, hx => cases hx; exact ⟨r2, rfl, n3'⟩
      | 3, hx => cases hx; exact ⟨r3, rfl, n4⟩
      | (j + 4), hx => simp at hx
    clear t1 t2 t3 t4 e1 e2 e3 e4 m1 m2 m3 m4 n1 n2 n2' n2'' n3 n3' n4 hR hR2 hR3 hR4 hl1 hl2 hl3
    refine ⟨_, rfl, R, _, rfl, SqL.of hRG, ?_⟩
    refine for_it (walk_enum (K := K) (a := R) (xs := [V.ref r0, V.ref r1, V.ref r2, V.ref r3])) (fun _ σ H1 => ∃ v2 v3 v4 v5, σ = [some (.ref l), some (.ref R), v2, v3, v4, v5] ∧ Same G H1) ⟨_, _, _, _, rfl, Same.refl _⟩ (fun _ σ H1 _ ⟨_, _, _, _, _, s⟩ => SqL.of (s _ _ hRG)) ?_ ?_
    · rintro i v σ H1 H0 hi ⟨v2, v3, v4, v5, rfl, s1⟩ ⟨T0, x, y, rfl, hT, rfl, ex, ey⟩
      cases ex
      obtain ⟨r, rfl, nr⟩ := facts i y ey
      have s1' : Same G (upd H1 T0 (.tup [.int (i : Nat), .ref r])) := s1.trans (same_upd (Same.refl _) hT)
      refine ⟨T0, _, rfl, SqT.of upd_same, rfl, _, _, rfl, _, _, rfl, rfl, ?_⟩
      have hl0 := s1' _ _ hlG
      refine ⟨_, rfl, _, rfl, _, _, rfl, rfl, _, rfl, l, _, rfl, SqL.of hl0, fun fw hfw => ?_⟩
      try dsimp only [tNext]
      have hi4 : i < 4 := hi
      have ecut : cutV (List.map rf [p0, p1, p2, p3, p4, p5, p6, p7]) none (some (5 + (i : Int))) = ([p0, p1, p2, p3, p4, p5, p6, p7].take (5 + i)).map rf := cut_few
      have etk : [p0, p1, p2, p3, p4, p5, p6, p7].take (5 + i) = p0 :: [p1, p2, p3, p4, p5, p6, p7].take (4 + i) := by rw [show 5 + i = (4 + i) + 1 by omega]; rfl
      rw [etk] at ecut
      rw [ecut]
      have s2 : Same G (upd (upd H1 T0 (.tup [.int (i : Nat), .ref r])) fw (.lst ((p0 :: [p1, p2, p3, p4, p5, p6, p7].take (4 + i)).map rf))) := s1'.trans (same_upd (Same.refl _) hfw)
      have im : IsMin (mnL p0.2 (([p1, p2, p3, p4, p5, p6, p7].take (4 + i)).map (·.2))) (p0.2 :: ([p1, p2, p3, p4, p5, p6, p7].take (4 + i)).map (·.2)) := mnL_min _ _
      have im2 : IsMin (mnL p0.2 (([p1, p2, p3, p4, p5, p6, p7].take (4 + i)).map (·.2))) ((p0 :: [p1, p2, p3, p4, p5, p6, p7].take (4 + i)).map (·.2)) := im
      have fl : (p0 :: [p1, p2, p3, p4, p5, p6, p7].take (4 + i)).length ≤ 8 := by rw [← etk, List.length_take]; exact Nat.min_le_right _ _
      have okf := (subG (4 + i)).same s2
      have mr := nr.same s2
      have hfe : (upd (upd H1 T0 (.tup [.int (i : Nat), .ref r])) fw (.lst ((p0 :: [p1, p2, p3, p4, p5, p6, p7].take (4 + i)).map rf))) fw = some (.lst ((p0 :: [p1, p2, p3, p4, p5, p6, p7].take (4 + i)).map rf)) := upd_same
      generalize mnL p0.2 (([p1, p2, p3, p4, p5, p6, p7].take (4 + i)).map (·.2)) = M at im2 mr
      generalize (p0 :: [p1, p2, p3, p4, p5, p6, p7].take (4 + i)) = few at im2 fl okf hfe s2 mr ⊢
      generalize upd (upd H1 T0 (.tup [.int (i : Nat), .ref r])) fw (.lst (few.map rf)) = J at s2 okf mr hfe ⊢
      clear im ecut etk facts hl0 s1'
      refine ⟨_, rfl, fw, rfl, ⟨_, SqL.of hfe⟩, fun D hD => ?_⟩
      refine lc_list (K := K) (a := fw) (xs := few.map rf) (fun i H1 => H1 D = some (.lst (List.replicate i (.bl true))) ∧ Same J H1) ⟨upd_same, same_upd (Same.refl _) hD⟩ (fun i H1 _ ⟨_, s⟩ => SqL.of (s _ _ hfe)) ?_ ?_
      · rintro i v H1 hx ⟨e1, s⟩
        obtain ⟨q, hq1, rfl⟩ := rf_at hx
        have hi2 : i < few.length := (List.getElem?_eq_some_iff.mp hq1).1
        have hqm := List.mem_of_getElem? hq1
        have hle : relN (fun i j => decide (i ≤ j)) M q.2 = true := im2.le q.2 (List.mem_map_of_mem (f := (·.2)) hqm)
        refine ⟨rfl, _, rfl, _, rfl, r, q.1, M, q.2, rfl, rfl, mr.same s, (okf q hqm).same s, ?_⟩
        rw [hle]
        refine ⟨_, e1, small1000 (by rw [List.length_replicate]; omega), ?_, same_upd s hD⟩
        rw [upd_same, List.replicate_succ']
      · rintro H1 ⟨e1, s⟩
        have el : (List.replicate (few.map rf).length true).all id = true := by simp
        refine ⟨D, List.replicate (few.map rf).length true, rfl, SqL.of (by rw [List.map_replicate]; exact e1), _, rfl, ?_⟩
        rw [el]
        refine iteF ⟨_, rfl, fw, rfl, ⟨_, SqL.of (s _ _ hfe)⟩, fun D2 hD2 => ?_⟩
        refine lc_list (K := K) (a := fw) (xs := few.map rf) (fun i H3 => ∃ acc : List V, H3 D2 = some (.lst acc) ∧ acc.length ≤ i ∧ Same H1 H3 ∧ ((∃ j q, j < i ∧ few[j]? = some q ∧ q.2 = M) → acc ≠ []))
          ⟨[], upd_same, Nat.le_refl _, same_upd (Same.refl _) hD2, fun ⟨j, q, hj, _⟩ => absurd hj (Nat.not_lt_zero _)⟩ (fun i H3 _ ⟨_, _, _, s3, _⟩ => SqL.of (s3 _ _ (s _ _ hfe))) ?_ ?_
        · rintro i v H3 hx ⟨acc, e3, hlen, s3, ne⟩
          obtain ⟨q, hq1, rfl⟩ := rf_at hx
          have hi2 : i < few.length := (List.getElem?_eq_some_iff.mp hq1).1
          have hqm := List.mem_of_getElem? hq1
          refine ⟨rfl, _, rfl, _, rfl, q.1, q.2, rfl, ((okf q hqm).same s).same s3, .inl ⟨r, M, rfl, (mr.same s).same s3, _, rfl, ?_⟩⟩
          refine ite2 (fun c0 => ?_) (fun c0 => ?_)
          · refine ⟨_, rfl, acc, e3, small1000 (by omega), acc ++ [rf q], upd_same, by rw [List.length_append]; exact Nat.succ_le_succ hlen, same_upd s3 hD2, fun _ z => by simp at z⟩
          · refine ⟨acc, e3, Nat.le_succ_of_le hlen, s3, fun ⟨j, q', hj, hjq, hm⟩ => ?_⟩
            rcases Nat.lt_succ_iff_lt_or_eq.mp hj with hj | hj
            · exact ne ⟨j, q', hj, hjq, hm⟩
            · subst hj
              rw [hq1] at hjq
              cases hjq
              exact absurd (decide_eq_true hm) c0
        · rintro H3 ⟨acc, e3, hlen, s3, ne⟩
          have hne : acc ≠ [] := by
            refine ne ?_
            obtain ⟨q, hq, e⟩ := List.mem_map.mp im2.mem
            obtain ⟨j, hj, e'⟩ := List.getElem_of_mem hq
            exact ⟨j, q, by rw [List.length_map]; exact hj, by rw [List.getElem?_eq_getElem hj, e'], e⟩
          refine ⟨(by show 0 ≤ sizeLine; decide), fun p hp => ?_⟩
          have s4 : Same H3 (upd H3 p (.lst [])) := same_upd (Same.refl _) hp
          refine ⟨D2, p, acc, [], rfl, rfl, s4 _ _ e3, upd_same, fun z => hne (List.length_eq_zero_iff.mp z), _, rfl, ?_⟩
          exact iteF ⟨_, _, _, _, rfl, s2.trans (s.trans (s3.trans s4))⟩
    · rintro σ H1 ⟨v2, v3, v4, v5, rfl, s1⟩
      exact k H1 (g.trans s1)
end
end Tg

namespace Tg
open PySem L2 Ow
theorem addN_comm (n m : Nm) : addN n m = addN m n := by
  cases n <;> cases m <;> simp [addN, Int.add_comm]
theorem addN_assoc (n m k : Nm) : addN (addN n m) k = addN n (addN m k) := by
  cases n <;> cases m <;> cases k <;> simp [addN, Int.add_assoc]
theorem addN_zero (m : Nm) : addN m (some 0) = m := by cases m <;> simp [addN]
theorem leB_addl {n m : Nm} (h : okN m) : leB n (addN n m) = true := by
  cases m with
  | none => rw [addN_comm]; exact leB_none _
  | some j => cases n with
    | none => rfl
    | some i =>
      have := h j rfl
      show leB (some i) (some (i + j)) = true
      rw [leB_some]
      simp
      omega
theorem add_least (n m k : Nm) : addN (mnL n [m]) k = mnL (addN n k) [addN m k] := by
  have h := mnL_min [m] n
  refine IsMin.eq (S := [addN n k, addN m k]) ⟨?_, fun s hs => ?_⟩ (mnL_min [addN m k] (addN n k)) (fun s h => h) (fun s h => h)
  · have := h.mem
    simp at this
    rcases this with z | z <;> rw [z] <;> simp
  · simp at hs
    rcases hs with rfl | rfl
    · exact leB_add (h.le _ (by simp)) (leB_refl k)
    · exact leB_add (h.le _ (by simp)) (leB_refl k)
theorem addN_free (n m : Nm) : (addN n m).isNone = (n.isNone || m.isNone) := by cases n <;> cases m <;> rfl
theorem all_rf {C : Addr} {H : Hp} : ∀ ys : List V, (∀ y ∈ ys, ∃ p : PN, y = rf p ∧ LenAt C H p.1 p.2) → ∃ L : List PN, ys = L.map rf ∧ okP C H L
  | [], _ => ⟨[], rfl, fun _ h => by cases h⟩
  | y :: ys, h => by
    obtain ⟨p, rfl, lp⟩ := h y List.mem_cons_self
    obtain ⟨L, rfl, ok⟩ := all_rf ys fun z hz => h z (List.mem_cons_of_mem _ hz)
    exact ⟨p :: L, rfl, fun z hz => by
      rcases List.mem_cons.mp hz with e | e
      · rw [e]; exact lp
      · exact ok z e⟩
def spLaw (K : PySem.W.Frag) : Sp := fun vs H Q _ => ∃ (a : Addr) (ns : List Int), vs = [.ref a] ∧ SqL K H a (ns.map V.int) ∧ ns.length ≤ 63 ∧ ∀ H', Q (.bl true) H'
abbrev lawN : List Str := ["_law_script", "_law_base", "_law_box_here", "_law_turn", "_law_a", "_law_b", "_law_c", "_law_d", "_law_some", "_law_k"]
theorem scLaw : FnScope lawN ["_law_script"] (defScope sLaw) := ⟨rfl, rfl, rfl, by decide +kernel, rfl, by decide +kernel, by decide +kernel⟩
/-- what a law calls -/
structure Cs (P : Program) (w : World) (K : PySem.W.Frag) (mg : Str → Option Value) (base : Heap) (C : Addr) : Prop where
  T : TxtA mg
  L : LF P w K mg base C
  S : LS P w K mg base C
  cBox : Cal P w K mg base 1 "_law_box" ["_law_script", "_law_base"] (spBox K)
  cLength : Cal P w K mg base 4 "_law_length" ["_law_box_here"] (spLength C)
  cMixed : Cal P w K mg base 2 "_law_mixed" ["_law_box_here", "_law_items"] (spMixed K)
  cLeastR : Cal P w K mg base 4 "_law_least_right" ["_law_a", "_law_b", "_law_c", "_law_d"] (spLeastR C)
  cManyR : Cal P w K mg base 4 "_law_many_right" ["_law_some"] (spManyR C)
section
variable {P : Program} {w : World} {K : PySem.W.Frag} {mg : Str → Option Value} {base : Heap} {C : Addr}
theorem ok_law {f : Addr} {fd : FuncData} (F : Fun K "law" "law" sLaw f fd) (c : Cs P w K mg base C) : FnOk P w K mg base CX0 5 f fd ["_law_script"] (spLaw K) := by
  refine F.ok scLaw (fun vs H Q E h => ?_) (fun cdv A outer s H vs Q E hr h => ?_)
  · obtain ⟨a, ns, rfl, _⟩ := h
    rfl
  · obtain ⟨a, ns, rfl, hS, hlen, k⟩ := h
    obtain ⟨T, L, S, cBox, cLength, cMixed, cLeastR, cManyR⟩ := c
    have nd := scLaw.nd
    refine ⟨_, (pss_cons (ps_for PassesOwn.never rfl (pi_range1 (by rfl) T.b_range (pa_cons pe_int pa_nil)) (pg_name (i := 1) nd rfl (.inl rfl))
        (pss_cons (ps_set (i := 2) nd rfl (.inr rfl) (pe_cal cBox (hr.mono (by decide)) (by rfl) (pa_cons (pv 0) (pa_cons (pv 1) pa_nil))))
          (pss_one (ps_for PassesOwn.never rfl (pi_range1 (by rfl) T.b_range (pa_cons pe_int pa_nil)) (pg_name (i := 3) nd rfl (.inl rfl))
            (pss_cons (ps_asg (pe_lc (own := [("_law_k", 9)]) (g := gName 9) rfl nd (pi_range1 (by rfl) T.b_range (pa_cons pe_int pa_nil)) (blkOk_by (own := [("_law_k", 9)]) (N := lawN) (sc := defScope sLaw) (by decide +kernel)) (fun _ _ _ _ _ => (pg_name (i := 9) nd rfl (.inl rfl))) (fun _ _ _ _ _ => pts_nil) (fun _ _ _ _ _ => (pe_cal cLength (hr.mono (by decide)) (by rfl) (pa_cons (pv 2) pa_nil)))) (pg_unl (by rfl) (pgs_cons (pg_name (i := 4) nd rfl (.inl rfl)) (pgs_cons (pg_name (i := 5) nd rfl (.inl rfl)) (pgs_cons (pg_name (i := 6) nd rfl (.inl rfl)) (pgs_cons (pg_name (i := 7) nd rfl (.inl rfl)) pgs_nil))))))
              (pss_cons (ps_if (PW.pt (pw_or (pt_cmpR (op_lenNe L (hr.mono (by decide))) (pe_op (op_lenA L (hr.mono (by decide))) (pv 4) (pv 5)) (pe_op (op_lenA L (hr.mono (by decide))) (pv 5) (pv 4)) (nomark _)) (pw_or (pt_cmpR (op_lenNe L (hr.mono (by decide))) (pe_op (op_lenA L (hr.mono (by decide))) (pe_op (op_lenA L (hr.mono (by decide))) (pv 4) (pv 5)) (pv 6)) (pe_op (op_lenA L (hr.mono (by decide))) (pv 4) (pe_op (op_lenA L (hr.mono (by decide))) (pv 5) (pv 6))) (nomark _)) (pw_or (pt_cmpR (op_lenNe L (hr.mono (by decide))) (pe_op (op_lenA L (hr.mono (by decide))) (pv 4) (pe_len L (hr.mono (by decide)) (by rfl) (pa_cons pe_int pa_nil))) (pv 4) (nomark _)) (pw_or1 (pt_cmpR (op_lenNe L (hr.mono (by decide))) (pe_op (op_IlenA L (hr.mono (by decide))) pe_int (pv 4)) (pv 4) (nomark _)))))))
                (pss_one (ps_ret pe_bl))
                pss_nil)
              (pss_cons (ps_if (PW.pt (pw_or (pt_not (pt_cmpR (op_lenLe L (hr.mono (by decide))) (pv 4) (pe_op (op_lenA L (hr.mono (by decide))) (pv 4) (pv 5)) (nomark _))) (pw_or (pt_not (pt_cmpR (op_lenLe L (hr.mono (by decide))) (pv 5) (pe_op (op_lenA L (hr.mono (by decide))) (pv 4) (pv 5)) (nomark _))) (pw_or1 (pt_cmpR op_ne (pe_isf L (hr.mono (by decide)) (pe_op (op_lenA L (hr.mono (by decide))) (pv 4) (pv 5))) (pe_or (pe_isf L (hr.mono (by decide)) (pv 4)) (pe_one (pe_isf L (hr.mono (by decide)) (pv 5)))) (nomark _))))))
                (pss_one (ps_ret pe_bl))
                pss_nil)
              (pss_cons (ps_if (PW.pt (pw_or (pt_cmpR (op_lenNe L (hr.mono (by decide))) (pe_op (op_lenA L (hr.mono (by decide))) (pe_least S L (hr.mono (by decide)) (by rfl) (pa_cons (pv 4) (pa_cons (pv 5) pa_nil))) (pv 6)) (pe_least S L (hr.mono (by decide)) (by rfl) (pa_cons (pe_op (op_lenA L (hr.mono (by decide))) (pv 4) (pv 6)) (pa_cons (pe_op (op_lenA L (hr.mono (by decide))) (pv 5) (pv 6)) pa_nil))) (nomark _)) (pw_or1 (pt_not (pt_val (pe_cal cLeastR (hr.mono (by decide)) (by rfl) (pa_cons (pv 4) (pa_cons (pv 5) (pa_cons (pv 6) (pa_cons (pv 7) pa_nil))))))))))
                (pss_one (ps_ret pe_bl))
                pss_nil)
              (pss_cons (ps_if (PW.pt (pw_and (pt_cmpR (op_lenLe L (hr.mono (by decide))) (pv 4) (pv 5) (nomark _)) (pw_and (pt_not (pt_cmpR (op_lenLe L (hr.mono (by decide))) (pe_op (op_lenA L (hr.mono (by decide))) (pv 4) (pv 6)) (pe_op (op_lenA L (hr.mono (by decide))) (pv 5) (pv 7)) (nomark _))) (pw_and1 (pt_cmpR (op_lenLe L (hr.mono (by decide))) (pv 6) (pv 7) (nomark _))))))
                (pss_one (ps_ret pe_bl))
                pss_nil)
              (pss_cons (ps_set (i := 8) nd rfl (.inl rfl) (pe_cal cMixed (hr.mono (by decide)) (by rfl) (pa_cons (pv 2) (pa_cons (pe_op op_cat (pe_lst (pa_cons (pv 4) (pa_cons (pv 5) (pa_cons (pv 6) (pa_cons (pv 7) pa_nil))))) (pe_lc (own := [("_law_k", 9)]) (g := gName 9) rfl nd (pi_range1 (by rfl) T.b_range (pa_cons pe_int pa_nil)) (blkOk_by (own := [("_law_k", 9)]) (N := lawN) (sc := defScope sLaw) (by decide +kernel)) (fun _ _ _ _ _ => (pg_name (i := 9) nd rfl (.inl rfl))) (fun _ _ _ _ _ => pts_nil) (fun _ _ _ _ _ => (pe_cal cLength (hr.mono (by decide)) (by rfl) (pa_cons (pv 2) pa_nil))))) pa_nil))))
              (pss_cons (ps_if (pt_not (pt_val (pe_cal cManyR (hr.mono (by decide)) (by rfl) (pa_cons (pv 8) pa_nil))))
                (pss_one (ps_ret pe_bl))
                pss_nil)
              (pss_one (ps_if (PW.pt (pw_or (pt_cmpR op_eq (pe_cmpR (op_lenLt L (hr.mono (by decide))) (pv 4) (pv 5) (nomark _)) (pe_cmpR (op_lenLe L (hr.mono (by decide))) (pv 5) (pv 4) (nomark _)) (nomark _)) (pw_or1 (pt_cmpR op_ne (pe_cmpR (op_lenEqK K L (hr.mono (by decide))) (pv 4) (pv 5) (nomark _)) (pe_and (pe_cmpR (op_lenLe L (hr.mono (by decide))) (pv 4) (pv 5) (nomark _)) (pe_one (pe_cmpR (op_lenLe L (hr.mono (by decide))) (pv 5) (pv 4) (nomark _)))) (nomark _)))))
                (pss_one (ps_ret pe_bl))
                pss_nil)))))))))))))
      (pss_one (ps_ret pe_bl))), ?_⟩
    refine ⟨_, rfl, (by decide), (by decide), for_range (n := 3) (fun i σ H1 => ∃ v1 v2 v3 v4 v5 v6 v7 v8 v9 : Option V, σ = [some (.ref a), v1, v2, v3, v4, v5, v6, v7, v8, v9] ∧ Same H H1)
      ⟨_, _, _, _, _, _, _, _, _, rfl, Same.refl H⟩ ?_ ?_⟩
    · rintro i σ H1 hi ⟨v1, v2, v3, v4, v5, v6, v7, v8, v9, rfl, s1⟩
      refine ⟨_, rfl, _, rfl, a, ns, _, rfl, s1.seq hS, hlen, by omega, by omega, fun b Lb H2 nb nL s2 B2 => ?_⟩
      have s02 : Same H H2 := s1.trans s2
      have nb0 := s1.free nb
      have nL0 := s1.free nL
      refine ⟨_, rfl, (by decide), (by decide), for_range (n := 6) (fun j σ H3 => ∃ u3 u4 u5 u6 u7 u8 u9 : Option V, σ = [some (.ref a), some (.int (0 + i)), some (.ref b), u3, u4, u5, u6, u7, u8, u9] ∧ Same H H3 ∧ Box b Lb H3)
        ⟨_, _, _, _, _, _, _, rfl, s02, B2⟩ ?_ ?_⟩
      · rintro j σ H3 hj ⟨u3, u4, u5, u6, u7, u8, u9, rfl, s3, B3⟩
        -- a, b, c, d = [..]
        refine ⟨_, rfl, (by decide), (by decide), fun D hD => ?_⟩
        obtain ⟨d1, d2⟩ := B3.apart hD
        refine lc_range (n := 4) (fun t H1 => ∃ acc : List PN, H1 D = some (.lst (acc.map rf)) ∧ acc.length = t ∧ okP C H1 acc ∧ (∀ y ∈ acc, okN y.2) ∧ Box b Lb H1 ∧ Kp b Lb H3 H1)
          ⟨[], upd_same, rfl, (fun _ h => by cases h), (fun _ h => by cases h), B3.new hD, (Kp.refl b Lb H3).new hD⟩ ?_ ?_
        · rintro t H1 ht ⟨acc, e1, el, ok1, on1, B1, k1⟩
          refine ⟨rfl, _, rfl, b, Lb, rfl, B1, fun n p H4 okn lp B4 k4 => ⟨acc.map rf, k4 D _ d1 d2 e1, small1000 (by rw [List.length_map]; omega), acc ++ [(p, n)], by rw [upd_same, List.map_append]; rfl, by simp [el], fun y hy => ?_, fun y hy => ?_, B4.put d1 d2, (k1.trans k4).new hD⟩⟩
          · rcases List.mem_append.mp hy with h | h
            · exact ((ok1 y h).kp B1 k4).lst (k4 D _ d1 d2 e1)
            · simp at h; subst h; exact lp.lst (k4 D _ d1 d2 e1)
          · rcases List.mem_append.mp hy with h | h
            · exact on1 y h
            · simp at h; subst h; exact okn
        rintro G ⟨acc, eD, el, okG, onG, Bx, kG⟩
        have sx : Same H G := s3.kp nb0 nL0 kG
        obtain ⟨⟨p1, n1⟩, ⟨p2, n2⟩, ⟨p3, n3⟩, ⟨p4, n4⟩, rfl⟩ : ∃ x y z u : PN, acc = [x, y, z, u] := by
          match acc, el with
          | [x, y, z, u], _ => exact ⟨x, y, z, u, rfl⟩
        obtain ⟨la, lb, lc, ld⟩ := mem4 okG
        have on1 : okN n1 := onG (p1, n1) (by simp)
        have on2 : okN n2 := onG (p2, n2) (by simp)
        refine ⟨D, _, rfl, SqL.of eD, rfl, _, _, rfl, _, _, rfl, _, _, rfl, _, _, rfl, rfl, ?_⟩
        clear okG onG eD kG hD s3 B3
        try dsimp only [tNext]
        -- c1
        refine ⟨_, rfl, _, rfl, p1, p2, n1, n2, rfl, rfl, la, lb, fun x1 G1 _ g1 l1 => ?_⟩
        have la := LenAt.same la g1
        have lb := LenAt.same lb g1
        have lc := LenAt.same lc g1
        have ld := LenAt.same ld g1
        have sx := Same.trans sx g1
        have Bx := Box.same Bx g1
        have l1 : LenAt C G1 x1 (addN n1 n2) := l1
        refine ⟨_, rfl, _, rfl, p2, p1, n2, n1, rfl, rfl, lb, la, fun x2 G2 _ g2 l2 => ?_⟩
        have la := LenAt.same la g2
        have lb := LenAt.same lb g2
        have lc := LenAt.same lc g2
        have ld := LenAt.same ld g2
        have l1 := LenAt.same l1 g2
        have sx := Same.trans sx g2
        have Bx := Box.same Bx g2
        have l2 : LenAt C G2 x2 (addN n2 n1) := l2
        refine ⟨x1, x2, (addN n1 n2), (addN n2 n1), rfl, rfl, l1, l2, _, rfl, iteNS (addN_comm _ _) ?_⟩
        refine ⟨_, rfl, _, rfl, p1, p2, n1, n2, rfl, rfl, la, lb, fun x3 G3 _ g3 l3 => ?_⟩
        have la := LenAt.same la g3
        have lb := LenAt.same lb g3
        have lc := LenAt.same lc g3
        have ld := LenAt.same ld g3
        have sx := Same.trans sx g3
        have Bx := Box.same Bx g3
        have l3 : LenAt C G3 x3 (addN n1 n2) := l3
        refine ⟨_, rfl, x3, p3, (addN n1 n2), n3, rfl, rfl, l3, lc, fun x4 G4 _ g4 l4 => ?_⟩
        have la := LenAt.same la g4
        have lb := LenAt.same lb g4
        have lc := LenAt.same lc g4
        have ld := LenAt.same ld g4
        have l3 := LenAt.same l3 g4
        have sx := Same.trans sx g4
        have Bx := Box.same Bx g4
        have l4 : LenAt C G4 x4 (addN (addN n1 n2) n3) := l4
        refine ⟨_, rfl, _, rfl, _, rfl, p2, p3, n2, n3, rfl, rfl, lb, lc, fun x5 G5 _ g5 l5 => ?_⟩
        have la := LenAt.same la g5
        have lb := LenAt.same lb g5
        have lc := LenAt.same lc g5
        have ld := LenAt.same ld g5
        have l3 := LenAt.same l3 g5
        have l4 := LenAt.same l4 g5
        have sx := Same.trans sx g5
        have Bx := Box.same Bx g5
        have l5 : LenAt C G5 x5 (addN n2 n3) := l5
        refine ⟨p1, x5, n1, (addN n2 n3), rfl, rfl, la, l5, fun x6 G6 _ g6 l6 => ?_⟩
        have la := LenAt.same la g6
        have lb := LenAt.same lb g6
        have lc := LenAt.same lc g6
        have ld := LenAt.same ld g6
        have l3 := LenAt.same l3 g6
        have l4 := LenAt.same l4 g6
        have l5 := LenAt.same l5 g6
        have sx := Same.trans sx g6
        have Bx := Box.same Bx g6
        have l6 : LenAt C G6 x6 (addN n1 (addN n2 n3)) := l6
        refine ⟨x4, x6, (addN (addN n1 n2) n3), (addN n1 (addN n2 n3)), rfl, rfl, l4, l6, _, rfl, iteNS (addN_assoc _ _ _) ?_⟩
        refine ⟨_, rfl, fun x7 dx ex ed nee => ⟨x7, dx, some 0, rfl, upd_same, fun r G7 hr h1 h2 kp => ⟨rfl, ?_⟩⟩⟩
        have g7 : Same G6 G7 := fun b o e => kp b o (by rw [upd_ne (ne_of_none e ex), upd_ne (ne_of_none e ed)]; exact e) (ne_of_none e ex)
        have l7 : LenAt C G7 x7 (some 0) := ⟨dx, r, h1, h2⟩
        have la := LenAt.same la g7
        have lb := LenAt.same lb g7
        have lc := LenAt.same lc g7
        have ld := LenAt.same ld g7
        have sx := Same.trans sx g7
        have Bx := Box.same Bx g7
        refine ⟨p1, x7, n1, (some 0), rfl, rfl, la, l7, fun x8 G8 _ g8 l8 => ?_⟩
        have la := LenAt.same la g8
        have lb := LenAt.same lb g8
        have lc := LenAt.same lc g8
        have ld := LenAt.same ld g8
        have l7 := LenAt.same l7 g8
        have sx := Same.trans sx g8
        have Bx := Box.same Bx g8
        have l8 : LenAt C G8 x8 (addN n1 (some 0)) := l8
        refine ⟨_, rfl, x8, p1, (addN n1 (some 0)), n1, rfl, rfl, l8, la, _, rfl, iteNS (addN_zero _) ?_⟩
        refine ⟨_, rfl, p1, n1, 0, rfl, rfl, la, fun x9 G9 _ g9 l9 => ?_⟩
        have la := LenAt.same la g9
        have lb := LenAt.same lb g9
        have lc := LenAt.same lc g9
        have ld := LenAt.same ld g9
        have sx := Same.trans sx g9
        have Bx := Box.same Bx g9
        have l9 : LenAt C G9 x9 (addN n1 (some 0)) := l9
        refine ⟨_, rfl, x9, p1, (addN n1 (some 0)), n1, rfl, rfl, l9, la, _, rfl, iteNS (addN_zero _) ?_⟩
        try dsimp only [tNext]
        -- c2
        refine seq_rest (fun σ1 H1 => σ1 = [some (.ref a), some (.int (0 + i)), some (.ref b), some (.int (0 + j)), some (.ref p1), some (.ref p2), some (.ref p3), some (.ref p4), u8, u9] ∧ Same G9 H1) ?_ (fun rest => ?_)
        rotate_left
        · have s0 := Same.refl G9
          refine ⟨_, rfl, _, rfl, _, rfl, p1, p2, n1, n2, rfl, rfl, la, lb, fun x10 G10 _ g10 l10 => ?_⟩
          have la := LenAt.same la g10
          have lb := LenAt.same lb g10
          have lc := LenAt.same lc g10
          have ld := LenAt.same ld g10
          have sx := Same.trans sx g10
          have Bx := Box.same Bx g10
          have s0 := Same.trans s0 g10
          have l10 : LenAt C G10 x10 (addN n1 n2) := l10
          refine ⟨p1, x10, n1, (addN n1 n2), rfl, rfl, la, l10, _, rfl, ?_⟩
          rw [show relN (fun i j => decide (i ≤ j)) n1 (addN n1 n2) = true from leB_addl on2]
          refine iteF ?_
          refine ⟨_, rfl, _, rfl, _, rfl, p1, p2, n1, n2, rfl, rfl, la, lb, fun x11 G11 _ g11 l11 => ?_⟩
          have la := LenAt.same la g11
          have lb := LenAt.same lb g11
          have lc := LenAt.same lc g11
          have ld := LenAt.same ld g11
          have sx := Same.trans sx g11
          have Bx := Box.same Bx g11
          have s0 := Same.trans s0 g11
          have l11 : LenAt C G11 x11 (addN n1 n2) := l11
          refine ⟨p2, x11, n2, (addN n1 n2), rfl, rfl, lb, l11, _, rfl, ?_⟩
          rw [show relN (fun i j => decide (i ≤ j)) n2 (addN n1 n2) = true from by have := leB_addl (n := n2) on1; rw [addN_comm] at this; exact this]
          refine iteF ?_
          refine ⟨_, rfl, _, rfl, p1, p2, n1, n2, rfl, rfl, la, lb, fun x12 G12 _ g12 l12 => ?_⟩
          have la := LenAt.same la g12
          have lb := LenAt.same lb g12
          have lc := LenAt.same lc g12
          have ld := LenAt.same ld g12
          have sx := Same.trans sx g12
          have Bx := Box.same Bx g12
          have s0 := Same.trans s0 g12
          have l12 : LenAt C G12 x12 (addN n1 n2) := l12
          obtain ⟨dx, z1, hx, _⟩ := id l12
          obtain ⟨da, z2, ha, _⟩ := id la
          obtain ⟨db, z3, hb, _⟩ := id lb
          refine ⟨x12, dx, _, rfl, hx, x12, _, rfl, l12, _, rfl, p1, da, _, rfl, ha, p1, n1, rfl, la, _, rfl, ?_⟩
          have fr := addN_free n1 n2
          cases e1 : n1.isNone with
          | true =>
            rw [e1] at fr
            refine iteT ⟨rfl, _, rfl, ?_⟩
            rw [fr]
            exact iteF (rest _ _ ⟨rfl, s0⟩)
          | false =>
            rw [e1] at fr
            refine iteF ⟨_, rfl, p2, db, _, rfl, hb, p2, n2, rfl, lb, rfl, _, rfl, ?_⟩
            rw [fr]
            cases n2.isNone <;> exact iteF (rest _ _ ⟨rfl, s0⟩)
        rintro σ1 J ⟨rfl, sJ⟩
        have la := LenAt.same la sJ
        have lb := LenAt.same lb sJ
        have lc := LenAt.same lc sJ
        have ld := LenAt.same ld sJ
        have sx := Same.trans sx sJ
        have Bx := Box.same Bx sJ
        try dsimp only [tNext]
        -- c3
        refine ⟨rfl, _, rfl, _, rfl, (p1, n1), [(p2, n2)], rfl, by simp, okP_of2 la lb, fun x13 G13 g13 l13 => ?_⟩
        have la := LenAt.same la g13
        have lb := LenAt.same lb g13
        have lc := LenAt.same lc g13
        have ld := LenAt.same ld g13
        have sx := Same.trans sx g13
        have Bx := Box.same Bx g13
        have l13 : LenAt C G13 x13 (mnL n1 [n2]) := l13
        refine ⟨_, rfl, x13, p3, (mnL n1 [n2]), n3, rfl, rfl, l13, lc, fun x14 G14 _ g14 l14 => ?_⟩
        have la := LenAt.same la g14
        have lb := LenAt.same lb g14
        have lc := LenAt.same lc g14
        have ld := LenAt.same ld g14
        have l13 := LenAt.same l13 g14
        have sx := Same.trans sx g14
        have Bx := Box.same Bx g14
        have l14 : LenAt C G14 x14 (addN (mnL n1 [n2]) n3) := l14
        refine ⟨rfl, _, rfl, _, rfl, p1, p3, n1, n3, rfl, rfl, la, lc, fun x15 G15 _ g15 l15 => ?_⟩
        have la := LenAt.same la g15
        have lb := LenAt.same lb g15
        have lc := LenAt.same lc g15
        have ld := LenAt.same ld g15
        have l13 := LenAt.same l13 g15
        have l14 := LenAt.same l14 g15
        have sx := Same.trans sx g15
        have Bx := Box.same Bx g15
        have l15 : LenAt C G15 x15 (addN n1 n3) := l15
        refine ⟨_, rfl, _, rfl, p2, p3, n2, n3, rfl, rfl, lb, lc, fun x16 G16 _ g16 l16 => ?_⟩
        have la := LenAt.same la g16
        have lb := LenAt.same lb g16
        have lc := LenAt.same lc g16
        have ld := LenAt.same ld g16
        have l13 := LenAt.same l13 g16
        have l14 := LenAt.same l14 g16
        have l15 := LenAt.same l15 g16
        have sx := Same.trans sx g16
        have Bx := Box.same Bx g16
        have l16 : LenAt C G16 x16 (addN n2 n3) := l16
        refine ⟨(x15, (addN n1 n3)), [(x16, (addN n2 n3))], rfl, by simp, okP_of2 l15 l16, fun x17 G17 g17 l17 => ?_⟩
        have la := LenAt.same la g17
        have lb := LenAt.same lb g17
        have lc := LenAt.same lc g17
        have ld := LenAt.same ld g17
        have l13 := LenAt.same l13 g17
        have l14 := LenAt.same l14 g17
        have l15 := LenAt.same l15 g17
        have l16 := LenAt.same l16 g17
        have sx := Same.trans sx g17
        have Bx := Box.same Bx g17
        have l17 : LenAt C G17 x17 (mnL (addN n1 n3) [(addN n2 n3)]) := l17
        refine ⟨x14, x17, (addN (mnL n1 [n2]) n3), (mnL (addN n1 n3) [(addN n2 n3)]), rfl, rfl, l14, l17, _, rfl, iteNS (add_least _ _ _) ?_⟩
        refine ⟨_, rfl, _, rfl, _, rfl, _, rfl, (p1, n1), (p2, n2), (p3, n3), (p4, n4), rfl, okP_of4 la lb lc ld, fun J2 j2 => ⟨_, rfl, iteF ?_⟩⟩
        have la := LenAt.same la j2
        have lb := LenAt.same lb j2
        have lc := LenAt.same lc j2
        have ld := LenAt.same ld j2
        have sx := Same.trans sx j2
        have Bx := Box.same Bx j2
        try dsimp only [tNext]
        -- c4
        refine seq_rest (fun σ1 H1 => σ1 = [some (.ref a), some (.int (0 + i)), some (.ref b), some (.int (0 + j)), some (.ref p1), some (.ref p2), some (.ref p3), some (.ref p4), u8, u9] ∧ Same J2 H1) ?_ (fun rest => ?_)
        rotate_left
        · refine ⟨_, rfl, _, rfl, p1, p2, n1, n2, rfl, rfl, la, lb, _, rfl, ?_⟩
          refine ite2 (fun c1 => ?_) (fun _ => rest _ _ ⟨rfl, Same.refl _⟩)
          have s0 := Same.refl J2
          refine ⟨_, rfl, _, rfl, p1, p3, n1, n3, rfl, rfl, la, lc, fun x18 G18 _ g18 l18 => ?_⟩
          have la := LenAt.same la g18
          have lb := LenAt.same lb g18
          have lc := LenAt.same lc g18
          have ld := LenAt.same ld g18
          have sx := Same.trans sx g18
          have Bx := Box.same Bx g18
          have s0 := Same.trans s0 g18
          have l18 : LenAt C G18 x18 (addN n1 n3) := l18
          refine ⟨_, rfl, _, rfl, p2, p4, n2, n4, rfl, rfl, lb, ld, fun x19 G19 _ g19 l19 => ?_⟩
          have la := LenAt.same la g19
          have lb := LenAt.same lb g19
          have lc := LenAt.same lc g19
          have ld := LenAt.same ld g19
          have l18 := LenAt.same l18 g19
          have sx := Same.trans sx g19
          have Bx := Box.same Bx g19
          have s0 := Same.trans s0 g19
          have l19 : LenAt C G19 x19 (addN n2 n4) := l19
          refine ⟨x18, x19, (addN n1 n3), (addN n2 n4), rfl, rfl, l18, l19, _, rfl, ?_⟩
          refine ite2 (fun c2 => ?_) (fun _ => rest _ _ ⟨rfl, s0⟩)
          refine ⟨_, rfl, _, rfl, p3, p4, n3, n4, rfl, rfl, lc, ld, _, rfl, ?_⟩
          refine ite2 (fun c3 => ?_) (fun _ => rest _ _ ⟨rfl, s0⟩)
          have z : leB (addN n1 n3) (addN n2 n4) = true := leB_add c1 c3
          have c2' : (!leB (addN n1 n3) (addN n2 n4)) = true := c2
          rw [z] at c2'
          cases c2'
        rintro σ1 M ⟨rfl, sM⟩
        have la := LenAt.same la sM
        have lb := LenAt.same lb sM
        have lc := LenAt.same lc sM
        have ld := LenAt.same ld sM
        have sx := Same.trans sx sM
        have Bx := Box.same Bx sM
        try dsimp only [tNext]
        -- c5
        refine ⟨_, rfl, _, rfl, _, rfl, _, rfl, _, rfl, (by show 4 ≤ sizeLine; decide), fun q hq => ?_⟩
        have mq : Same M (upd M q (.lst [.ref p1, .ref p2, .ref p3, .ref p4])) := same_upd (Same.refl _) hq
        have la := LenAt.same la mq
        have lb := LenAt.same lb mq
        have lc := LenAt.same lc mq
        have ld := LenAt.same ld mq
        have sx := Same.trans sx mq
        have hq1 : upd M q (.lst [.ref p1, .ref p2, .ref p3, .ref p4]) q = some (.lst [.ref p1, .ref p2, .ref p3, .ref p4]) := upd_same
        obtain ⟨q1, q2⟩ := Bx.apart hq
        have Bx := Box.same Bx mq
        generalize upd M q (.lst [.ref p1, .ref p2, .ref p3, .ref p4]) = N at la lb lc ld sx hq1 Bx ⊢
        clear mq hq
        refine ⟨_, rfl, (by decide), (by decide), fun D2 hD2 => ?_⟩
        obtain ⟨d3, d4⟩ := Bx.apart hD2
        refine lc_range (n := 4) (fun t H1 => ∃ acc : List PN, H1 D2 = some (.lst (acc.map rf)) ∧ acc.length = t ∧ okP C H1 acc ∧ Box b Lb H1 ∧ Kp b Lb N H1)
          ⟨[], upd_same, rfl, (fun _ h => by cases h), Bx.new hD2, (Kp.refl b Lb N).new hD2⟩ ?_ ?_
        · rintro t H1 ht ⟨acc, e1, el, ok1, B1, k1⟩
          refine ⟨rfl, _, rfl, b, Lb, rfl, B1, fun n p H4 okn lp B4 k4 => ⟨acc.map rf, k4 D2 _ d3 d4 e1, small1000 (by rw [List.length_map]; omega), acc ++ [(p, n)], by rw [upd_same, List.map_append]; rfl, by simp [el], fun y hy => ?_, B4.put d3 d4, (k1.trans k4).new hD2⟩⟩
          rcases List.mem_append.mp hy with h | h
          · exact ((ok1 y h).kp B1 k4).lst (k4 D2 _ d3 d4 e1)
          · simp at h; subst h; exact lp.lst (k4 D2 _ d3 d4 e1)
        rintro N2 ⟨acc, eD, el, okA, B2', kN⟩
        have la := LenAt.kp la Bx kN
        have lb := LenAt.kp lb Bx kN
        have lc := LenAt.kp lc Bx kN
        have ld := LenAt.kp ld Bx kN
        have hq2 := kN q _ q1 q2 hq1
        have sx : Same H N2 := sx.kp nb0 nL0 kN
        have Bx := B2'
        refine ⟨q, D2, _, _, rfl, rfl, hq2, eD, (by rw [List.length_map, el]; show 4 + 4 ≤ sizeLine; decide), fun r hr => ?_⟩
        have eL : [V.ref p1, .ref p2, .ref p3, .ref p4] ++ acc.map rf = ((p1, n1) :: (p2, n2) :: (p3, n3) :: (p4, n4) :: acc).map rf := rfl
        rw [eL]
        have okL : okP C N2 ((p1, n1) :: (p2, n2) :: (p3, n3) :: (p4, n4) :: acc) := fun y hy => by
          simp at hy
          rcases hy with rfl | rfl | rfl | rfl | h
          · exact la
          · exact lb
          · exact lc
          · exact ld
          · exact okA y h
        have lenL : ((p1, n1) :: (p2, n2) :: (p3, n3) :: (p4, n4) :: acc).length = 8 := by simp [el]
        generalize ((p1, n1) :: (p2, n2) :: (p3, n3) :: (p4, n4) :: acc) = Ls at okL lenL ⊢
        have n2r : Same N2 (upd N2 r (.lst (Ls.map rf))) := same_upd (Same.refl _) hr
        have la := LenAt.same la n2r
        have lb := LenAt.same lb n2r
        have sx := Same.trans sx n2r
        have Bx := Box.same Bx n2r
        have okL := okP.same okL n2r
        have hr1 : upd N2 r (.lst (Ls.map rf)) r = some (.lst (Ls.map rf)) := upd_same
        generalize upd N2 r (.lst (Ls.map rf)) = N3 at la lb sx Bx okL hr1 ⊢
        refine ⟨b, Lb, r, _, rfl, Bx, .inl (SqL.of hr1), (by rw [List.length_map, lenL]; decide), fun m ys N4 hm pm em B4 k4 => ?_⟩
        have okM : ∀ y ∈ ys, ∃ p : PN, y = rf p ∧ LenAt C N4 p.1 p.2 := fun y hy => by
          obtain ⟨p, hp, rfl⟩ := List.mem_map.mp (pm.mem_iff.mp hy)
          exact ⟨p, rfl, (okL p hp).kp Bx k4⟩
        have ly : ys.length = 8 := by rw [pm.length_eq, List.length_map, lenL]
        obtain ⟨Ms, rfl, okMs⟩ := all_rf ys okM
        have la := LenAt.kp la Bx k4
        have lb := LenAt.kp lb Bx k4
        have sx : Same H N4 := sx.kp nb0 nL0 k4
        have Bx := B4
        -- c6
        try dsimp only [tNext]
        refine ⟨_, rfl, m, Ms, rfl, em, (by rw [List.length_map] at ly; exact ly), okMs, fun N5 n5 => ⟨_, rfl, iteF ?_⟩⟩
        have la := LenAt.same la n5
        have lb := LenAt.same lb n5
        have sx := Same.trans sx n5
        have Bx := Box.same Bx n5
        -- c7
        try dsimp only [tNext]
        refine ⟨_, rfl, _, rfl, p1, p2, n1, n2, rfl, rfl, la, lb, _, rfl, _, rfl, p2, p1, n2, n1, rfl, rfl, lb, la, rfl, _, rfl, ?_⟩
        have o1 : relN (fun i j => decide (i < j)) n1 n2 = !leB n2 n1 := ltB_not _ _
        rw [o1]
        have o2 : decide (V.bl (!leB n2 n1) = V.bl (relN (fun i j => decide (i ≤ j)) n2 n1)) = false := by
          show decide (V.bl (!leB n2 n1) = V.bl (leB n2 n1)) = false
          cases leB n2 n1 <;> decide
        rw [o2]
        refine iteF ⟨_, rfl, _, rfl, p1, n1, rfl, la, .inl ⟨p2, n2, rfl, lb, ?_⟩⟩
        refine ⟨_, rfl, _, rfl, p1, p2, n1, n2, rfl, rfl, la, lb, _, rfl, ?_⟩
        have fin : ∀ x : Bool, x = (leB n1 n2 && leB n2 n1) → decide (n1 = n2) = x := fun x e => by
          rw [e]
          cases c1 : leB n1 n2 with
          | true => cases c2 : leB n2 n1 with
            | true => exact decide_eq_true (leB_anti c1 c2)
            | false => exact decide_eq_false fun z => by rw [z, leB_refl] at c2; cases c2
          | false => exact decide_eq_false fun z => by rw [z, leB_refl] at c1; cases c1
        have c1e : relN (fun i j => decide (i ≤ j)) n1 n2 = leB n1 n2 := rfl
        rw [c1e]
        cases c1 : leB n1 n2 with
        | true =>
          refine iteT ⟨_, rfl, _, rfl, p2, p1, n2, n1, rfl, rfl, lb, la, rfl, _, rfl, ?_⟩
          rw [fin (leB n2 n1) (by rw [c1]; rfl)]
          exact iteNS rfl ⟨_, _, _, _, _, _, _, rfl, sx, Bx⟩
        | false =>
          refine iteF ⟨rfl, _, rfl, ?_⟩
          rw [fin false (by rw [c1]; rfl)]
          exact iteNS rfl ⟨_, _, _, _, _, _, _, rfl, sx, Bx⟩
      · rintro σ H3 ⟨u3, u4, u5, u6, u7, u8, u9, rfl, s3, B3⟩
        exact ⟨_, _, _, _, _, _, _, _, _, rfl, s3⟩
    · rintro σ H1 ⟨v1, v2, v3, v4, v5, v6, v7, v8, v9, rfl, s1⟩
      exact k H1
end
end Tg

namespace Tg
open PySem L2 Ow
structure TxtB (mg : Str → Option Value) : Prop where
  abs : mg "abs" = none
  len : mg "len" = none
section
variable {P : Program} {w : World} {K : PySem.W.Frag} {mg : Str → Option Value} {base : Heap}
theorem scTake : FnScope ["_law_box_here", "_law_many", "_law_digit", "_law_one"] ["_law_box_here", "_law_many"] (defScope sTake) := ⟨rfl, rfl, rfl, by decide +kernel, rfl, by decide +kernel, by decide +kernel⟩
theorem ok_take {f : Addr} {fd : FuncData} (F : Fun K "_law_take" "_law_take" sTake f fd) (T : TxtB mg) : FnOk P w K mg base CX0 1 f fd ["_law_box_here", "_law_many"] spTake := by
  refine F.ok scTake (fun vs H Q E h => ?_) (fun cdv A outer s H vs Q E hr h => ?_)
  · obtain ⟨b, L, m, rfl, _⟩ := h
    rfl
  · obtain ⟨b, L, m, rfl, m0, m9, ⟨gs, now, seed, turn, B⟩, k⟩ := h
    have hu := hu_of hr
    have nd := scTake.nd
    refine ⟨_, pss_cons (ps_if (PW.pt (pw_and (pt_cmpR op_eq (pe_dget hu (pv 0) pe_str (fun _ _ => rfl)) pe_int (nomark _)) (pw_and1 (pt_cmpR op_gt (pe_callB call_len_seq (by rfl) T.len PySem.boot_len (pa_cons (pe_dget hu (pv 0) pe_str (fun _ _ => rfl)) pa_nil)) pe_int (nomark _)))))
        (pss_one (ps_dput hu (pv 0) pe_str (pe_bm0 PySem.F.plainAttrs_list PySem.F.slot_list_pop PySem.F.type_list_pop mt_pop (pe_dget hu (pv 0) pe_str (fun _ _ => rfl))) rfl)) pss_nil)
      (pss_cons (ps_if (pt_cmpR op_gt (pe_dget hu (pv 0) pe_str (fun _ _ => rfl)) pe_int (nomark _))
        (pss_cons (ps_set (i := 2) nd rfl (.inl rfl) (pe_op op_mod (pe_dget hu (pv 0) pe_str (fun _ _ => rfl)) (pv 1)))
        (pss_cons (ps_dput hu (pv 0) pe_str (pe_op op_fdivW (pe_dget hu (pv 0) pe_str (fun _ _ => rfl)) (pv 1)) rfl)
        (pss_one (ps_ret (pv 2))))) pss_nil)
      (pss_cons (ps_dput hu (pv 0) pe_str (pe_op op_add (pe_dget hu (pv 0) pe_str (fun _ _ => rfl)) pe_int) rfl)
      (pss_cons (ps_set (i := 3) nd rfl (.inl rfl) (pe_op op_mod (pe_op op_mul (pe_op op_mod (pe_op op_add (pe_dget hu (pv 0) pe_str (fun _ _ => rfl)) (pe_op op_mul pe_int (pe_dget hu (pv 0) pe_str (fun _ _ => rfl)))) pe_int) pe_int) pe_int))
      (pss_cons (ps_dput hu (pv 0) pe_str (pe_op op_add (pe_op op_mod (pe_op op_add (pv 3) (pe_op op_mul pe_int (pe_dget hu (pv 0) pe_str (fun _ _ => rfl)))) pe_int) pe_int) rfl)
      (pss_one (ps_ret (pe_op op_mod (pe_op op_fdiv (pe_op op_add (pe_op op_mul (pv 3) pe_int) (pe_dget hu (pv 0) pe_str (fun _ _ => rfl))) pe_int) (pv 1)))))))), ?_⟩
    refine seq_rest (fun σ1 H1 => σ1 = [some (.ref b), some (.int m), none, none] ∧ Kp b L H H1 ∧ ∃ gs now seed turn, BoxAt H1 b L gs now seed turn) ?_ (fun rest => ?_)
    · rintro σ1 H1 ⟨rfl, k1, gs, now, seed, turn, B⟩
      refine ⟨_, rfl, b, _, rfl, B.gnow, _, _, rfl, rfl, _, rfl, ?_⟩
      refine ite2 (fun hn => ?_) (fun hn => ?_)
      · have hn0 : 0 < now := of_decide_eq_true hn
        refine ⟨_, rfl, b, _, rfl, B.gnow, _, rfl, _, _, rfl, rfl, m0, ?_⟩
        refine ⟨_, rfl, b, _, rfl, B.gnow, _, rfl, _, _, rfl, rfl, ⟨m0, m9⟩, _, rfl, b, _, rfl, B.pnow _, ?_⟩
        obtain ⟨B2, k2⟩ := B.put (turn' := turn) (Int.ediv_nonneg B.now0 (Int.le_of_lt m0)) B.seed0 B.seed1
        refine ⟨_, rfl, ?_⟩
        exact k _ _ (Int.emod_nonneg _ (by omega)) (Int.emod_lt_of_pos _ m0) ⟨_, _, _, _, B2⟩ (k1.trans k2)
      · refine ⟨_, rfl, b, _, rfl, B.gturn, _, _, rfl, rfl, _, rfl, b, _, rfl, B.pturn _, ?_⟩
        obtain ⟨B2, k2⟩ := B.put (turn' := turn + 1) B.now0 B.seed0 B.seed1
        have c1 := B.seed0
        have c2 := B.seed1
        refine ⟨_, rfl, b, _, rfl, B2.gseed, _, rfl, b, _, rfl, B2.gturn, _, _, rfl, rfl, .inl (by omega), _, _, rfl, rfl, _, _, rfl, rfl, pos_lit (by decide), _, _, rfl, rfl, .inr (by omega), _, _, rfl, rfl, pos_lit (by decide), ?_⟩
        generalize (seed + 69623 * (turn + 1)) % 2147483647 * 16807 = z0
        refine ⟨_, rfl, _, rfl, b, _, rfl, B2.gseed, _, _, rfl, rfl, .inl (by omega), _, _, rfl, rfl, _, _, rfl, rfl, pos_lit (by decide), _, _, rfl, rfl, _, rfl, b, _, rfl, B2.pseed _, ?_⟩
        obtain ⟨B3, k3⟩ := B2.put (now' := now) (turn' := turn + 1) (seed' := (z0 % 2147483647 + 3 * seed) % 2147483629 + 1) B.now0 (by omega) (by omega)
        refine ⟨_, rfl, _, _, rfl, rfl, .inr (by omega), _, rfl, b, _, rfl, B3.gseed, _, _, rfl, rfl, _, _, rfl, rfl, ⟨by decide, by decide⟩, _, rfl, _, _, rfl, rfl, m0, ?_⟩
        exact k _ _ (Int.emod_nonneg _ (by omega)) (Int.emod_lt_of_pos _ m0) ⟨_, _, _, _, B3⟩ ((k1.trans k2).trans k3)
    · refine ⟨_, rfl, b, _, rfl, B.gnow, rfl, _, rfl, ?_⟩
      refine ite2 (fun hn => ?_) (fun hn => ?_)
      · refine ⟨_, rfl, b, _, rfl, B.ggreat, _, _, rfl, .inl (SqL.of B.ls), _, _, rfl, rfl, _, rfl, ?_⟩
        refine ite2 (fun hg => ?_) (fun hg => ?_)
        · have hg0 : 0 < (gs.map V.int).length := by
            have := of_decide_eq_true hg
            omega
          have hlast : (gs.map V.int)[(gs.map V.int).length - 1]? = some (V.int (gs.getLast (by intro e; simp [e] at hg0))) := by
            simp [List.getLast_eq_getElem]
          obtain ⟨B2, k2⟩ := B.pop
          refine ⟨_, rfl, b, _, rfl, B.ggreat, .inl ⟨rfl, _, SqL.of B.ls⟩, L, _, _, rfl, rfl, B.ls, hlast, _, rfl, b, _, rfl, B2.pnow _, ?_⟩
          obtain ⟨B3, k3⟩ := B2.put (turn' := turn) (B.pos _ (List.getLast_mem _)) B.seed0 B.seed1
          exact rest _ _ ⟨rfl, k2.trans k3, _, _, _, _, B3⟩
        · exact rest _ _ ⟨rfl, Kp.refl _ _ _, _, _, _, _, B⟩
      · refine iteF ?_
        exact rest _ _ ⟨rfl, Kp.refl _ _ _, _, _, _, _, B⟩
theorem scBox : FnScope ["_law_script", "_law_base", "_law_seed", "_law_cell", "_law_great"] ["_law_script", "_law_base"] (defScope sBox) := ⟨rfl, rfl, rfl, by decide +kernel, rfl, by decide +kernel, by decide +kernel⟩
theorem ok_box {f : Addr} {fd : FuncData} (F : Fun K "_law_box" "_law_box" sBox f fd) (T : TxtB mg) : FnOk P w K mg base CX0 1 f fd ["_law_script", "_law_base"] (spBox K) := by
  refine F.ok scBox (fun vs H Q E h => ?_) (fun cdv A outer s H vs Q E hr h => ?_)
  · obtain ⟨a, ns, e, rfl, _⟩ := h
    rfl
  · obtain ⟨a, ns, e, rfl, hS, hl, e0, e1, k⟩ := h
    have nd := scBox.nd
    refine ⟨_, pss_cons (ps_set (i := 2) nd rfl (.inl rfl) (pe_op op_add pe_int (pe_op op_mul pe_int (pv 1))))
      (pss_cons (ps_for PassesOwn.never rfl (pi_list (pe_slice sl_list (pv 0) po_none (po_some pe_int))) (pg_name (i := 3) nd rfl (.inl rfl))
        (pss_one (ps_set (i := 2) nd rfl (.inl rfl) (pe_op op_mod (pe_op op_add (pe_op op_add (pe_op op_mul (pv 2) pe_int) (pe_op op_mod (pe_callB call_abs (by rfl) T.abs (by decide +kernel) (pa_cons (pv 3) pa_nil)) pe_int)) pe_int) pe_int))))
      (pss_cons (ps_setLc (i := 4) (own := [("_law_cell", 3)]) (g := gName 3) rfl nd rfl rfl (sw_true rfl rfl rfl (by decide +kernel)) (pi_list (pe_slice sl_list (pv 0) (po_some (pv 1)) (po_some pe_int)))
        (blkOk_by (own := [("_law_cell", 3)]) (N := ["_law_script", "_law_base", "_law_seed", "_law_cell", "_law_great"]) (sc := defScope sBox) (by decide +kernel)) (fun _ _ _ _ _ => pg_name (i := 3) nd rfl (.inl rfl))
        (fun _ _ _ _ _ => pts_one (pt_cmpR op_ge (pe_callB call_abs (by rfl) T.abs (by decide +kernel) (pa_cons (pv 3) pa_nil)) (pe_op op_pow pe_int pe_int) (nomark _)))
        (fun _ _ _ _ _ => pe_callB call_abs (by rfl) T.abs (by decide +kernel) (pa_cons (pv 3) pa_nil)))
      (pss_one (ps_ret (pe_disp (pps_cons pe_str (pe_revL (pv 4)) (pps_cons pe_str pe_int (pps_cons pe_str (pe_op op_add (pv 2) pe_int) (pps_cons pe_str pe_int pps_nil)))) (by rfl) (by rfl) (fun z => by cases z) (by decide)))))), ?_⟩
    refine ⟨_, rfl, _, _, rfl, rfl, .inl (by decide), _, _, rfl, rfl, ?_⟩
    refine ⟨_, rfl, _, rfl, a, _, rfl, hS, fun p hp => ?_⟩
    obtain ⟨ms, em, hm⟩ := cut_ints ns none (some 50)
    rw [em]
    refine ⟨p, rfl, ⟨_, SqL.of upd_same⟩, ?_⟩
    refine for_list (K := K) (a := p) (xs := ms.map V.int) (fun i σ H2 => ∃ (sd : Int) (c : Option V), σ = [some (.ref a), some (.int e), some (.int sd), c, none] ∧ Same (upd H p (.lst (ms.map V.int))) H2 ∧ 0 ≤ sd ∧ sd < 2147483648)
      ⟨_, none, rfl, Same.refl _, by omega, by omega⟩ (fun i σ H2 _ ⟨_, _, _, s2, _⟩ => SqL.of (s2 _ _ upd_same)) ?_ ?_
    · rintro i y σ H2 hi ⟨sd, c, rfl, s2, b0, b1⟩
      obtain ⟨z, hz, rfl⟩ := ints_at hi
      refine ⟨_, rfl, _, _, rfl, rfl, .inr (by decide), _, rfl, _, rfl, _, _, rfl, rfl, pos_lit (by decide), _, _, rfl, rfl, _, _, rfl, rfl, _, _, rfl, rfl, pos_lit (by decide), ?_⟩
      exact ⟨_, some (.int z), rfl, s2, Int.emod_nonneg _ (by decide), Int.lt_trans (Int.emod_lt_of_pos _ (by decide)) (by decide)⟩
    · rintro σ H2 ⟨sd, c, rfl, s2, b0, b1⟩
      have s3 : Same H H2 := (same_upd (Same.refl H) hp).trans s2
      refine ⟨_, rfl, _, rfl, _, rfl, _, rfl, a, _, rfl, s3.seq hS, fun p2 hp2 => ?_⟩
      obtain ⟨ms2, em2, hm2⟩ := cut_ints ns (some e) (some 50)
      rw [em2]
      refine ⟨p2, rfl, ⟨_, SqL.of upd_same⟩, fun D hD => ?_⟩
      have n2 : D ≠ p2 := fun z => by rw [z, upd_same] at hD; cases hD
      have hD2 : H2 D = none := by rw [upd_ne n2] at hD; exact hD
      refine lc_list (K := K) (a := p2) (xs := ms2.map V.int) (fun i H3 => ∃ gs : List Int, H3 D = some (.lst (gs.map V.int)) ∧ gs.length ≤ i ∧ (∀ g ∈ gs, 0 ≤ g) ∧ Same H H3 ∧ H3 p2 = some (.lst (ms2.map V.int)))
        ⟨[], upd_same, Nat.le_refl _, (fun g hg => nomatch hg), same_upd (same_upd s3 (s3.free hp2)) (s3.free hD2), by rw [upd_ne n2.symm, upd_same]⟩ (fun i H3 _ ⟨_, _, _, _, _, e3⟩ => SqL.of e3) ?_ ?_
      · rintro i y H3 hi ⟨gs, g1, g2, g3, g4, g5⟩
        obtain ⟨z, hz, rfl⟩ := ints_at hi
        have hi2 : i < ms2.length := (List.getElem?_eq_some_iff.mp hz).1
        refine ⟨rfl, _, rfl, _, rfl, _, _, rfl, rfl, ⟨by decide, by decide, by decide⟩, _, _, rfl, rfl, _, rfl, ?_⟩
        refine ite2 (fun hz0 => ?_) (fun hz0 => ?_)
        · refine ⟨_, rfl, _, rfl, _, g1, small1000 (by rw [List.length_map]; omega), gs ++ [if z < 0 then -z else z], ?_, ?_, ?_, same_upd g4 (s3.free hD2), ?_⟩
          · rw [upd_same, List.map_append]
            rfl
          · rw [List.length_append]
            exact Nat.succ_le_succ g2
          · intro g hg
            rcases List.mem_append.mp hg with h | h
            · exact g3 g h
            · have e := List.mem_singleton.mp h
              rw [e]
              split <;> omega
          · rw [upd_ne n2.symm]
            exact g5
        · exact ⟨gs, g1, Nat.le_succ_of_le g2, g3, g4, g5⟩
      · rintro H3 ⟨gs, g1, g2, g3, g4, g5⟩
        intro p3 hp3
        have n3 : D ≠ p3 := ne_of_none g1 hp3
        refine ⟨_, rfl, D, _, rfl, SqL.of (by rw [upd_ne n3]; exact g1), fun q hq => ?_⟩
        have n4 : q ≠ p3 := fun z => by rw [z, upd_same] at hq; cases hq
        have hq3 : H3 q = none := by rw [upd_ne n4] at hq; exact hq
        refine ⟨_, rfl, _, _, rfl, rfl, ?_⟩
        refine ⟨by rw [upd_ne n4.symm, upd_same], kvsB q 0 (sd + 1) 0, rfl, (by show 4 ≤ 15; decide), ?_⟩
        rw [merge_kvsB]
        refine k p3 q _ (g4.free hp3) (g4.free hq3) (same_upd (same_upd (same_upd g4 (g4.free hp3)) (g4.free hq3)) (g4.free hp3)) ⟨gs.reverse, 0, sd + 1, 0, upd_same, ?_, by omega, by omega, by omega, fun g hg => g3 g (List.mem_reverse.mp hg)⟩
        rw [upd_ne n4, upd_same, List.map_reverse]
end
theorem hbL {kV dc pm cd ct : Value} {an : Option Addr} : ∀ us rest : List Value, us.length = 1 → bindArgs (PySem.W.fnOf "least" "Length.least" (defArgs sLLeast) (defBody sLLeast) (defScope sLLeast) .none kV dc pm an cd ct) ⟨us ++ rest, []⟩ = (newTuple rest >>= fun t => pure ((["first"] : List Str).zip us ++ ([("others", t)] : List (Str × Value)))) := by
  intro us rest h
  match us, h with
  | [u], _ =>
    cases rest with
    | nil => rfl
    | cons r rs => rfl
end Tg

namespace Tg
open PySem L2 Ow
theorem kit_no {K : PySem.W.Frag} {C : Addr} {t : String} (h1 : PySem.W.typeIn K (.ref C) = some (.type "type")) (h2 : PySem.W.isClsIn K C = true) (h3 : PySem.W.subIn K (.type t) (.ref C) = some false) : PySem.W.kitOne K (.type t) (.ref C) = some false := by
  have h4 : (PySem.W.clsIn K C).isSome = true := h2
  have ne : (Value.type t == Value.ref C) = false := rfl
  unfold PySem.W.kitOne PySem.W.kitCls
  simp [ne, h1, h4, h3]
theorem all_mk {l : PySem.W.OpenLaw} {w : World} {K : PySem.W.Frag} {h : Heap} {mg : Str → Option Value} {fa C f1 f2 f3 f4 f5 f6 f7 f8 f9 f10 f11 f12 f13 f14 f15 f16 f17 f18 f19 f20 f21 p2 p3 p4 p20 : Addr} {rs2 rs3 rs4 rs20 : List Value} {fo3 fo4 : Option Value} (X : K.In h) (G : h.Ns mainGlobals mg) (hfa : mg "law" = some (.ref fa))
    {od1 an1 od2 an2 od3 an3 od4 an4 od5 an5 od6 an6 od7 an7 od8 an8 od9 an9 od10 an10 od11 an11 od12 an12 od13 an13 od14 an14 od15 an15 od16 an16 od17 an17 od18 an18 od19 an19 od20 an20 od21 an21 : Option Addr} {sl1 sl2 sl3 sl4 sl5 sl6 sl7 sl8 sl9 sl10 sl11 sl12 sl13 sl14 sl15 sl16 sl17 sl18 sl19 sl20 sl21 : Array (Option Value)} {oc1 kV1 dc1 pm1 cd1 ct1 oc2 kV2 dc2 pm2 cd2 ct2 oc3 kV3 dc3 pm3 cd3 ct3 oc4 kV4 dc4 pm4 cd4 ct4 oc5 kV5 dc5 pm5 cd5 ct5 oc6 kV6 dc6 pm6 cd6 ct6 oc7 kV7 dc7 pm7 cd7 ct7 oc8 kV8 dc8 pm8 cd8 ct8 oc9 kV9 dc9 pm9 cd9 ct9 oc10 kV10 dc10 pm10 cd10 ct10 oc11 kV11 dc11 pm11 cd11 ct11 oc12 kV12 dc12 pm12 cd12 ct12 oc13 kV13 dc13 pm13 cd13 ct13 oc14 kV14 dc14 pm14 cd14 ct14 oc15 kV15 dc15 pm15 cd15 ct15 oc16 kV16 dc16 pm16 cd16 ct16 oc17 kV17 dc17 pm17 cd17 ct17 oc18 kV18 dc18 pm18 cd18 ct18 oc19 kV19 dc19 pm19 cd19 ct19 oc20 kV20 dc20 pm20 cd20 ct20 oc21 kV21 dc21 pm21 cd21 ct21 : Value}
    (aC : PySem.W.nsIn K mainGlobals "Length" = some (some (.ref C)))
    (a1 : PySem.W.findIn K (.ref C) "__init__" = some (some (.ref f1)))
    (i1 : PySem.W.isFn K (.ref f1) = true)
    (l1 : K.lookup f1 = some ⟨oc1, od1, .func (PySem.W.fnOf "__init__" "Length.__init__" (defArgs sLI) (defBody sLI) (defScope sLI) .none kV1 dc1 pm1 an1 cd1 ct1), sl1⟩)
    (c1 : PySem.W.codeIn K cd1 "Length.__init__" = true)
    (k1 : PySem.W.keepIn K (.ref f1) = true)
    (a2 : PySem.W.findCls K (.ref C) (.type "type") "free" = some (.get (.builtin "classmethod.__get__") (.ref p2) .none (.ref C)))
    (r2 : PySem.W.recIn K p2 "classmethod" = some (.ref f2 :: rs2))
    (g2 : PySem.W.fnIn K f2 = true)
    (l2 : K.lookup f2 = some ⟨oc2, od2, .func (PySem.W.fnOf "free" "Length.free" (defArgs sLFree) (defBody sLFree) (defScope sLFree) .none kV2 dc2 pm2 an2 cd2 ct2), sl2⟩)
    (c2 : PySem.W.codeIn K cd2 "Length.free" = true)
    (k2 : PySem.W.keepIn K (.ref f2) = true)
    (a3 : PySem.W.findIn K (.ref C) "number" = some (some (.ref p3)))
    (g3 : PySem.W.specialIn K (.ref p3) "__get__" = some (some (.builtin "property.__get__")))
    (t3 : PySem.W.takesIn K (.ref p3) = some true)
    (r3 : PySem.W.recIn K p3 "property" = some (.ref f3 :: rs3))
    (l3 : K.lookup f3 = some ⟨oc3, od3, .func (PySem.W.fnOf "number" "Length.number" (defArgs sLNum) (defBody sLNum) (defScope sLNum) .none kV3 dc3 pm3 an3 cd3 ct3), sl3⟩)
    (c3 : PySem.W.codeIn K cd3 "Length.number" = true)
    (k3 : PySem.W.keepIn K (.ref f3) = true)
    (a4 : PySem.W.findIn K (.ref C) "is_free" = some (some (.ref p4)))
    (g4 : PySem.W.specialIn K (.ref p4) "__get__" = some (some (.builtin "property.__get__")))
    (t4 : PySem.W.takesIn K (.ref p4) = some true)
    (r4 : PySem.W.recIn K p4 "property" = some (.ref f4 :: rs4))
    (l4 : K.lookup f4 = some ⟨oc4, od4, .func (PySem.W.fnOf "is_free" "Length.is_free" (defArgs sLIsF) (defBody sLIsF) (defScope sLIsF) .none kV4 dc4 pm4 an4 cd4 ct4), sl4⟩)
    (c4 : PySem.W.codeIn K cd4 "Length.is_free" = true)
    (k4 : PySem.W.keepIn K (.ref f4) = true)
    (a5 : PySem.W.findIn K (.ref C) (PySem.dunder "add") = some (some (.ref f5)))
    (i5 : PySem.W.isFn K (.ref f5) = true)
    (l5 : K.lookup f5 = some ⟨oc5, od5, .func (PySem.W.fnOf "__add__" "Length.__add__" (defArgs sLAdd) (defBody sLAdd) (defScope sLAdd) .none kV5 dc5 pm5 an5 cd5 ct5), sl5⟩)
    (c5 : PySem.W.codeIn K cd5 "Length.__add__" = true)
    (k5 : PySem.W.keepIn K (.ref f5) = true)
    (a6 : PySem.W.findIn K (.ref C) (dunderR "add") = some (some (.ref f6)))
    (i6 : PySem.W.isFn K (.ref f6) = true)
    (l6 : K.lookup f6 = some ⟨oc6, od6, .func (PySem.W.fnOf "__radd__" "Length.__radd__" (defArgs sLRadd) (defBody sLRadd) (defScope sLRadd) .none kV6 dc6 pm6 an6 cd6 ct6), sl6⟩)
    (c6 : PySem.W.codeIn K cd6 "Length.__radd__" = true)
    (k6 : PySem.W.keepIn K (.ref f6) = true)
    (a7 : PySem.W.findIn K (.ref C) "__lt__" = some (some (.ref f7)))
    (i7 : PySem.W.isFn K (.ref f7) = true)
    (l7 : K.lookup f7 = some ⟨oc7, od7, .func (PySem.W.fnOf "__lt__" "Length.__lt__" (defArgs sLLt) (defBody sLLt) (defScope sLLt) .none kV7 dc7 pm7 an7 cd7 ct7), sl7⟩)
    (c7 : PySem.W.codeIn K cd7 "Length.__lt__" = true)
    (k7 : PySem.W.keepIn K (.ref f7) = true)
    (a8 : PySem.W.findIn K (.ref C) "__le__" = some (some (.ref f8)))
    (i8 : PySem.W.isFn K (.ref f8) = true)
    (l8 : K.lookup f8 = some ⟨oc8, od8, .func (PySem.W.fnOf "__le__" "Length.__le__" (defArgs sLLe) (defBody sLLe) (defScope sLLe) .none kV8 dc8 pm8 an8 cd8 ct8), sl8⟩)
    (c8 : PySem.W.codeIn K cd8 "Length.__le__" = true)
    (k8 : PySem.W.keepIn K (.ref f8) = true)
    (a9 : PySem.W.findIn K (.ref C) "__gt__" = some (some (.ref f9)))
    (i9 : PySem.W.isFn K (.ref f9) = true)
    (l9 : K.lookup f9 = some ⟨oc9, od9, .func (PySem.W.fnOf "__gt__" "Length.__gt__" (defArgs sLGt) (defBody sLGt) (defScope sLGt) .none kV9 dc9 pm9 an9 cd9 ct9), sl9⟩)
    (c9 : PySem.W.codeIn K cd9 "Length.__gt__" = true)
    (k9 : PySem.W.keepIn K (.ref f9) = true)
    (a10 : PySem.W.findIn K (.ref C) "__ge__" = some (some (.ref f10)))
    (i10 : PySem.W.isFn K (.ref f10) = true)
    (l10 : K.lookup f10 = some ⟨oc10, od10, .func (PySem.W.fnOf "__ge__" "Length.__ge__" (defArgs sLGe) (defBody sLGe) (defScope sLGe) .none kV10 dc10 pm10 an10 cd10 ct10), sl10⟩)
    (c10 : PySem.W.codeIn K cd10 "Length.__ge__" = true)
    (k10 : PySem.W.keepIn K (.ref f10) = true)
    (a11 : PySem.W.findIn K (.ref C) "__eq__" = some (some (.ref f11)))
    (i11 : PySem.W.isFn K (.ref f11) = true)
    (l11 : K.lookup f11 = some ⟨oc11, od11, .func (PySem.W.fnOf "__eq__" "Length.__eq__" (defArgs sLEq) (defBody sLEq) (defScope sLEq) .none kV11 dc11 pm11 an11 cd11 ct11), sl11⟩)
    (c11 : PySem.W.codeIn K cd11 "Length.__eq__" = true)
    (k11 : PySem.W.keepIn K (.ref f11) = true)
    (a12 : PySem.W.findIn K (.ref C) "__str__" = some (some (.ref f12)))
    (i12 : PySem.W.isFn K (.ref f12) = true)
    (l12 : K.lookup f12 = some ⟨oc12, od12, .func (PySem.W.fnOf "__str__" "Length.__str__" (defArgs sLStr) (defBody sLStr) (defScope sLStr) .none kV12 dc12 pm12 an12 cd12 ct12), sl12⟩)
    (c12 : PySem.W.codeIn K cd12 "Length.__str__" = true)
    (k12 : PySem.W.keepIn K (.ref f12) = true)
    (a13 : PySem.W.findIn K (.ref C) "__repr__" = some (some (.ref f13)))
    (i13 : PySem.W.isFn K (.ref f13) = true)
    (l13 : K.lookup f13 = some ⟨oc13, od13, .func (PySem.W.fnOf "__repr__" "Length.__repr__" (defArgs sLRepr) (defBody sLRepr) (defScope sLRepr) .none kV13 dc13 pm13 an13 cd13 ct13), sl13⟩)
    (c13 : PySem.W.codeIn K cd13 "Length.__repr__" = true)
    (k13 : PySem.W.keepIn K (.ref f13) = true)
    (a14 : PySem.W.nsIn K mainGlobals "_law_box" = some (some (.ref f14)))
    (l14 : K.lookup f14 = some ⟨oc14, od14, .func (PySem.W.fnOf "_law_box" "_law_box" (defArgs sBox) (defBody sBox) (defScope sBox) .none kV14 dc14 pm14 an14 cd14 ct14), sl14⟩)
    (c14 : PySem.W.codeIn K cd14 "_law_box" = true)
    (k14 : PySem.W.keepIn K (.ref f14) = true)
    (a15 : PySem.W.nsIn K mainGlobals "_law_take" = some (some (.ref f15)))
    (l15 : K.lookup f15 = some ⟨oc15, od15, .func (PySem.W.fnOf "_law_take" "_law_take" (defArgs sTake) (defBody sTake) (defScope sTake) .none kV15 dc15 pm15 an15 cd15 ct15), sl15⟩)
    (c15 : PySem.W.codeIn K cd15 "_law_take" = true)
    (k15 : PySem.W.keepIn K (.ref f15) = true)
    (a16 : PySem.W.nsIn K mainGlobals "_law_mixed" = some (some (.ref f16)))
    (l16 : K.lookup f16 = some ⟨oc16, od16, .func (PySem.W.fnOf "_law_mixed" "_law_mixed" (defArgs sMixed) (defBody sMixed) (defScope sMixed) .none kV16 dc16 pm16 an16 cd16 ct16), sl16⟩)
    (c16 : PySem.W.codeIn K cd16 "_law_mixed" = true)
    (k16 : PySem.W.keepIn K (.ref f16) = true)
    (a17 : PySem.W.nsIn K mainGlobals "_law_length" = some (some (.ref f17)))
    (l17 : K.lookup f17 = some ⟨oc17, od17, .func (PySem.W.fnOf "_law_length" "_law_length" (defArgs sLength) (defBody sLength) (defScope sLength) .none kV17 dc17 pm17 an17 cd17 ct17), sl17⟩)
    (c17 : PySem.W.codeIn K cd17 "_law_length" = true)
    (k17 : PySem.W.keepIn K (.ref f17) = true)
    (a18 : PySem.W.nsIn K mainGlobals "_law_least_right" = some (some (.ref f18)))
    (l18 : K.lookup f18 = some ⟨oc18, od18, .func (PySem.W.fnOf "_law_least_right" "_law_least_right" (defArgs sLeastR) (defBody sLeastR) (defScope sLeastR) .none kV18 dc18 pm18 an18 cd18 ct18), sl18⟩)
    (c18 : PySem.W.codeIn K cd18 "_law_least_right" = true)
    (k18 : PySem.W.keepIn K (.ref f18) = true)
    (a19 : PySem.W.nsIn K mainGlobals "_law_many_right" = some (some (.ref f19)))
    (l19 : K.lookup f19 = some ⟨oc19, od19, .func (PySem.W.fnOf "_law_many_right" "_law_many_right" (defArgs sManyR) (defBody sManyR) (defScope sManyR) .none kV19 dc19 pm19 an19 cd19 ct19), sl19⟩)
    (c19 : PySem.W.codeIn K cd19 "_law_many_right" = true)
    (k19 : PySem.W.keepIn K (.ref f19) = true)
    (a20 : PySem.W.findCls K (.ref C) (.type "type") "least" = some (.get (.builtin "staticmethod.__get__") (.ref p20) .none (.ref C)))
    (r20 : PySem.W.recIn K p20 "staticmethod" = some (.ref f20 :: rs20))
    (h20 : PySem.W.findIn K (.ref C) "least" = some (some (.ref p20)))
    (u20 : PySem.W.typeIn K (.ref p20) = some (.type "staticmethod"))
    (g20 : PySem.W.specialIn K (.ref p20) "__get__" = some (some (.builtin "staticmethod.__get__")))
    (t20 : PySem.W.takesIn K (.ref p20) = some false)
    (l20 : K.lookup f20 = some ⟨oc20, od20, .func (PySem.W.fnOf "least" "Length.least" (defArgs sLLeast) (defBody sLLeast) (defScope sLLeast) .none kV20 dc20 pm20 an20 cd20 ct20), sl20⟩)
    (c20 : PySem.W.codeIn K cd20 "Length.least" = true)
    (k20 : PySem.W.keepIn K (.ref f20) = true)
    (a21 : PySem.W.nsIn K mainGlobals "law" = some (some (.ref f21)))
    (l21 : K.lookup f21 = some ⟨oc21, od21, .func (PySem.W.fnOf "law" "law" (defArgs sLaw) (defBody sLaw) (defScope sLaw) .none kV21 dc21 pm21 an21 cd21 ct21), sl21⟩)
    (c21 : PySem.W.codeIn K cd21 "law" = true)
    (k21 : PySem.W.keepIn K (.ref f21) = true)
    (pg : PySem.W.plainGet K C Str.empty = true)
    (hd : PySem.W.hasDictIn K C = true)
    (po : PySem.W.plainOver K C = true)
    (sa : PySem.W.findIn K (.ref C) "__setattr__" = some (some (.builtin "object.__setattr__")))
    (nN : PySem.W.findIn K (.ref C) "_number" = some none)
    (nR : PySem.W.findIn K (.ref C) "_rank" = some none)
    (hc : PySem.W.findIn K (.ref C) "__class__" = some (some (.builtin "object.__class__")))
    (hn : PySem.W.specialIn K (.builtin "object.__class__") "__get__" = some (some (.builtin "getset_descriptor.__get__")))
    (ht : PySem.W.takesIn K (.builtin "object.__class__") = some true)
    (hm : PySem.W.mroIn K C (.type "object") = some true)
    (sf : PySem.W.selfFirst K C = true)
    (tC : PySem.W.typeIn K (.ref C) = some (.type "type"))
    (iC : PySem.W.isClsIn K C = true)
    (ks_int : PySem.W.subIn K (.type "int") (.ref C) = some false)
    (ks_NoneType : PySem.W.subIn K (.type "NoneType") (.ref C) = some false)
    (ks_str : PySem.W.subIn K (.type "str") (.ref C) = some false)
    (ks_tuple : PySem.W.subIn K (.type "tuple") (.ref C) = some false)
    (ks_bool : PySem.W.subIn K (.type "bool") (.ref C) = some false)
    (mkC : PySem.W.makesIn K C = true)
    (keC : PySem.W.keepIn K (.ref C) = true)
    (q3 : PySem.W.findIn K (.type "int") (PySem.dunder "add") = some fo3)
    (q4 : PySem.W.findIn K (.type "int") (dunderR "add") = some fo4)
    (q6 : PySem.W.subIn K (.ref C) (.type "int") = some false)
    (ne : PySem.W.findIn K (.ref C) "__ne__" = some (some (.builtin "object.__ne__")))
    (rdC : PySem.W.readsIn K C (.type "type") = true)
    (gaC : PySem.W.specialIn K (.ref C) "__getattribute__" = some (some (.builtin "type.__getattribute__")))
    (z_isinstance : PySem.W.nsIn K mainGlobals "isinstance" = some none)
    (z_int : PySem.W.nsIn K mainGlobals "int" = some none)
    (z_bool : PySem.W.nsIn K mainGlobals "bool" = some none)
    (z_str : PySem.W.nsIn K mainGlobals "str" = some none)
    (z_all : PySem.W.nsIn K mainGlobals "all" = some none)
    (z_range : PySem.W.nsIn K mainGlobals "range" = some none)
    (z_abs : PySem.W.nsIn K mainGlobals "abs" = some none)
    (z_len : PySem.W.nsIn K mainGlobals "len" = some none)
    (z_list : PySem.W.nsIn K mainGlobals "list" = some none)
    (z_enumerate : PySem.W.nsIn K mainGlobals "enumerate" = some none) :
    ∃ fd : FuncData, (∀ (s : Shared) (v : Value), BindsTo s fd ⟨[v], []⟩ [("_law_script", v)]) ∧ ∀ base : Heap, K.In base → base.Ns mainGlobals mg → FnOkG l.prog w K mg base CX0 5 fa fd ["_law_script"] (spLaw K) := by
  have e := hfa.symm.trans (PySem.W.mg_of X G a21)
  cases e
  have F1 := fun_mk (st := sLI) l1 c1 k1
  have b1 := F1.binds (ps := ["self", "number"]) fun _ _ _ _ _ _ us hl => match us, hl with | [_, _], _ => rfl
  have F2 := fun_mk (st := sLFree) l2 c2 k2
  have b2 := F2.binds (ps := ["cls"]) fun _ _ _ _ _ _ us hl => match us, hl with | [_], _ => rfl
  have F3 := fun_mk (st := sLNum) l3 c3 k3
  have b3 := F3.binds (ps := ["self"]) fun _ _ _ _ _ _ us hl => match us, hl with | [_], _ => rfl
  have F4 := fun_mk (st := sLIsF) l4 c4 k4
  have b4 := F4.binds (ps := ["self"]) fun _ _ _ _ _ _ us hl => match us, hl with | [_], _ => rfl
  have F5 := fun_mk (st := sLAdd) l5 c5 k5
  have b5 := F5.binds (ps := ["self", "other"]) fun _ _ _ _ _ _ us hl => match us, hl with | [_, _], _ => rfl
  have F6 := fun_mk (st := sLRadd) l6 c6 k6
  have b6 := F6.binds (ps := ["self", "other"]) fun _ _ _ _ _ _ us hl => match us, hl with | [_, _], _ => rfl
  have F7 := fun_mk (st := sLLt) l7 c7 k7
  have b7 := F7.binds (ps := ["self", "other"]) fun _ _ _ _ _ _ us hl => match us, hl with | [_, _], _ => rfl
  have F8 := fun_mk (st := sLLe) l8 c8 k8
  have b8 := F8.binds (ps := ["self", "other"]) fun _ _ _ _ _ _ us hl => match us, hl with | [_, _], _ => rfl
  have F9 := fun_mk (st := sLGt) l9 c9 k9
  have b9 := F9.binds (ps := ["self", "other"]) fun _ _ _ _ _ _ us hl => match us, hl with | [_, _], _ => rfl
  have F10 := fun_mk (st := sLGe) l10 c10 k10
  have b10 := F10.binds (ps := ["self", "other"]) fun _ _ _ _ _ _ us hl => match us, hl with | [_, _], _ => rfl
  have F11 := fun_mk (st := sLEq) l11 c11 k11
  have b11 := F11.binds (ps := ["self", "other"]) fun _ _ _ _ _ _ us hl => match us, hl with | [_, _], _ => rfl
  have F12 := fun_mk (st := sLStr) l12 c12 k12
  have b12 := F12.binds (ps := ["self"]) fun _ _ _ _ _ _ us hl => match us, hl with | [_], _ => rfl
  have F13 := fun_mk (st := sLRepr) l13 c13 k13
  have b13 := F13.binds (ps := ["self"]) fun _ _ _ _ _ _ us hl => match us, hl with | [_], _ => rfl
  have F14 := fun_mk (st := sBox) l14 c14 k14
  have b14 := F14.binds (ps := ["_law_script", "_law_base"]) fun _ _ _ _ _ _ us hl => match us, hl with | [_, _], _ => rfl
  have m14 := PySem.W.mg_of X G a14
  have F15 := fun_mk (st := sTake) l15 c15 k15
  have b15 := F15.binds (ps := ["_law_box_here", "_law_many"]) fun _ _ _ _ _ _ us hl => match us, hl with | [_, _], _ => rfl
  have m15 := PySem.W.mg_of X G a15
  have F16 := fun_mk (st := sMixed) l16 c16 k16
  have b16 := F16.binds (ps := ["_law_box_here", "_law_items"]) fun _ _ _ _ _ _ us hl => match us, hl with | [_, _], _ => rfl
  have m16 := PySem.W.mg_of X G a16
  have F17 := fun_mk (st := sLength) l17 c17 k17
  have b17 := F17.binds (ps := ["_law_box_here"]) fun _ _ _ _ _ _ us hl => match us, hl with | [_], _ => rfl
  have m17 := PySem.W.mg_of X G a17
  have F18 := fun_mk (st := sLeastR) l18 c18 k18
  have b18 := F18.binds (ps := ["_law_a", "_law_b", "_law_c", "_law_d"]) fun _ _ _ _ _ _ us hl => match us, hl with | [_, _, _, _], _ => rfl
  have m18 := PySem.W.mg_of X G a18
  have F19 := fun_mk (st := sManyR) l19 c19 k19
  have b19 := F19.binds (ps := ["_law_some"]) fun _ _ _ _ _ _ us hl => match us, hl with | [_], _ => rfl
  have m19 := PySem.W.mg_of X G a19
  have F20 := fun_mk (st := sLLeast) l20 c20 k20
  have F21 := fun_mk (st := sLaw) l21 c21 k21
  have b21 := F21.binds (ps := ["_law_script"]) fun _ _ _ _ _ _ us hl => match us, hl with | [_], _ => rfl
  have n_isinstance := PySem.W.mg_none_of X G z_isinstance
  have n_int := PySem.W.mg_none_of X G z_int
  have n_bool := PySem.W.mg_none_of X G z_bool
  have n_str := PySem.W.mg_none_of X G z_str
  have n_all := PySem.W.mg_none_of X G z_all
  have n_range := PySem.W.mg_none_of X G z_range
  have n_abs := PySem.W.mg_none_of X G z_abs
  have n_len := PySem.W.mg_none_of X G z_len
  have n_list := PySem.W.mg_none_of X G z_list
  have n_enumerate := PySem.W.mg_none_of X G z_enumerate
  have kT : ∀ t : String, t ∈ ["int", "NoneType", "str", "tuple", "bool"] → PySem.W.kitOne K (.type t) (.ref C) = some false ∧ PySem.W.subIn K (.type t) (.ref C) = some false := by
    intro t ht
    simp at ht
    rcases ht with rfl | rfl | rfl | rfl | rfl
    · exact ⟨kit_no tC iC ks_int, ks_int⟩
    · exact ⟨kit_no tC iC ks_NoneType, ks_NoneType⟩
    · exact ⟨kit_no tC iC ks_str, ks_str⟩
    · exact ⟨kit_no tC iC ks_tuple, ks_tuple⟩
    · exact ⟨kit_no tC iC ks_bool, ks_bool⟩
  have kC : PySem.W.kitOne K (.ref C) (.ref C) = some true := by simp [PySem.W.kitOne]
  have T : LenTxt K mg C := { cl := ⟨pg, hd, po, sa⟩, nN := nN, nR := nR, gC := PySem.W.mg_of X G aC, b_isinstance := n_isinstance, b_int := n_int, b_bool := n_bool, b_str := n_str, hc := hc, hn := hn, ht := ht, hm := hm, sf := sf, kC := kC, kT := kT }
  have M : Mk K C f1 := ⟨mkC, a1, i1, keC⟩
  have TA : TxtA mg := ⟨n_all, n_range, n_enumerate⟩
  have TM : TxtM mg := ⟨n_list, n_range, n_len⟩
  have TB : TxtB mg := ⟨n_abs, n_len⟩
  refine ⟨PySem.W.fnOf "law" "law" (defArgs sLaw) (defBody sLaw) (defScope sLaw) .none kV21 dc21 pm21 an21 cd21 ct21, fun s v => .of_eq rfl, fun base _ _ => ?_⟩
  have GI : FnOk l.prog w K mg base CX0 1 f1 _ ["self", "number"] (spLI C) := ok_LI F1 T
  have AD : AddF l.prog w K mg base C f5 f6 _ := { A := ok_LAdd F5 T M GI b1, bA := b5, sA := a5, iA := i5, sR := a6, iR := i6, s3 := ⟨_, q3⟩, s4 := ⟨_, q4⟩, s5 := ks_int, s6 := q6 }
  have LL : LF l.prog w K mg base C :=
    { T := T, mki := ⟨f1, _, M, GI, b1⟩, ad := ⟨f5, f6, _, _, AD, ok_LRadd F6 T AD, b6⟩, lt := ⟨f7, _, ok_LLt F7 T, b7, a7, i7⟩, le := ⟨f8, _, ok_LLe F8 T, b8, a8, i8⟩, gt := ⟨f9, _, ok_LGt F9 T, b9, a9, i9⟩, ge := ⟨f10, _, ok_LGe F10 T, b10, a10, i10⟩, eq := ⟨f11, _, ok_LEq F11 T, b11, a11, i11⟩,
      ne := ne, st := ⟨f12, _, ok_LStr F12 T, b12, a12, i12⟩, rp := ⟨f13, _, ok_LRepr F13 T, b13, a13, i13⟩, fr := ⟨.type "type", p2, f2, ⟨rdC, gaC⟩, ⟨a2, ⟨_, r2⟩, g2⟩, ((ok_LFree F2 T M GI b1).raw b2 .nil).imp fun vs H Q E z => by simpa using z⟩,
      nu := ⟨p3, f3, _, ⟨a3, g3, t3, ⟨_, r3⟩⟩, ok_LNum F3 T, b3⟩, isf := ⟨p4, f4, _, ⟨a4, g4, t4, ⟨_, r4⟩⟩, ok_LIsF F4 T, b4⟩ }
  have RS : ClX.CRead K C (.type "type") := ⟨rdC, gaC⟩
  have ST : SMet K C (.type "type") "least" p20 f20 := ⟨a20, ⟨_, r20⟩, k20⟩
  have SI : SInst K C "least" p20 f20 := { pg := pg, ic := iC, at_ := h20, ty := u20, get := g20, tk := t20, cp := by decide +kernel, rc := ⟨_, r20⟩, kp := k20 }
  have SS : LS l.prog w K mg base C := ⟨p20, f20, RS, ST, SI, ok_least F20 LL hbL⟩
  have cTake : Cal l.prog w K mg base 1 "_law_take" ["_law_box_here", "_law_many"] spTake := ⟨f15, _, ok_take F15 TB, m15, k15, b15⟩
  exact FnOkG.of (ok_law F21 { T := TA, L := LL, S := SS, cBox := ⟨f14, _, ok_box F14 TB, m14, k14, b14⟩, cLength := ⟨f17, _, ok_length F17 LL cTake, m17, k17, b17⟩, cMixed := ⟨f16, _, ok_mixed F16 TM cTake, m16, k16, b16⟩, cLeastR := ⟨f18, _, ok_leastR F18 TA LL SS, m18, k18, b18⟩, cManyR := ⟨f19, _, ok_manyR F19 TA LL SS, m19, k19, b19⟩ })
theorem walk {l : PySem.W.OpenLaw} {q : Program} {loose : List Str} {XP : (Str → Option Value) → Heap → Prop} {YP : World → Heap → Prop} {d : DefRec} {K : Params → PySem.W.Frag} (hn : l.most = some 63) (hdf : d.params.defaults = []) (hY : ∀ (w : World) (h : Heap), YP w h → (K w.params).In h)
    (F : ∀ (w : World) (mg : Str → Option Value) (fa : Addr) (h : Heap), (K w.params).In h → h.Ns mainGlobals mg → mg d.name = some (.ref fa) →
      ∃ fd : FuncData, (∀ (s : Shared) (u : Value), BindsTo s fd ⟨[u], []⟩ [("_law_script", u)]) ∧ ∀ base : Heap, (K w.params).In base → base.Ns mainGlobals mg → FnOkG l.prog w (K w.params) mg base CX0 5 fa fd ["_law_script"] (spLaw (K w.params))) :
    PySem.W.WalkO q loose XP YP l.row.toRowW d [] (fun f vs => PySem.call f vs) :=
  Ow.walk_G (n := 63) (k := 5) (x := "_law_script") (sp := fun w => spLaw (K w.params)) hn (by decide) hdf ⟨rfl, by decide, by decide⟩ hY F fun _ _ a ms hl hS => ⟨a, ms, rfl, hS, hl, fun _ => rfl⟩
end Tg
open PySem PySem.W PyProof.Rows
set_option maxRecDepth 100000 in
set_option maxHeartbeats 0 in
theorem PySem.Challenge.cw_towgrove_k03_whole_sums_and_least_length_holds : PySem.Challenge.rw_towgrove_k03_whole_sums_and_least_length.Holds := by
  w_on; o_law; k_head; (case hw => w_witness2)
  k_fill
  refine Tg.walk (l := PySem.Challenge.rw_towgrove_k03_whole_sums_and_least_length) rfl rfl (fun w h Y => PySem.W.kIn_of Y) ?F
  case F =>
    intro w mg fa h KX G hmg
    refine' Tg.all_mk KX G hmg ?y_aC ?y_a1 ?y_i1 ?y_l1 ?y_c1 ?y_k1 ?y_a2 ?y_r2 ?y_g2 ?y_l2 ?y_c2 ?y_k2 ?y_a3 ?y_g3 ?y_t3 ?y_r3 ?y_l3 ?y_c3 ?y_k3 ?y_a4 ?y_g4 ?y_t4 ?y_r4 ?y_l4 ?y_c4 ?y_k4 ?y_a5 ?y_i5 ?y_l5 ?y_c5 ?y_k5 ?y_a6 ?y_i6 ?y_l6 ?y_c6 ?y_k6 ?y_a7 ?y_i7 ?y_l7 ?y_c7 ?y_k7 ?y_a8 ?y_i8 ?y_l8 ?y_c8 ?y_k8 ?y_a9 ?y_i9 ?y_l9 ?y_c9 ?y_k9 ?y_a10 ?y_i10 ?y_l10 ?y_c10 ?y_k10 ?y_a11 ?y_i11 ?y_l11 ?y_c11 ?y_k11 ?y_a12 ?y_i12 ?y_l12 ?y_c12 ?y_k12 ?y_a13 ?y_i13 ?y_l13 ?y_c13 ?y_k13 ?y_a14 ?y_l14 ?y_c14 ?y_k14 ?y_a15 ?y_l15 ?y_c15 ?y_k15 ?y_a16 ?y_l16 ?y_c16 ?y_k16 ?y_a17 ?y_l17 ?y_c17 ?y_k17 ?y_a18 ?y_l18 ?y_c18 ?y_k18 ?y_a19 ?y_l19 ?y_c19 ?y_k19 ?y_a20 ?y_r20 ?y_h20 ?y_u20 ?y_g20 ?y_t20 ?y_l20 ?y_c20 ?y_k20 ?y_a21 ?y_l21 ?y_c21 ?y_k21 ?y_pg ?y_hd ?y_po ?y_sa ?y_nN ?y_nR ?y_hc ?y_hn ?y_ht ?y_hm ?y_sf ?y_tC ?y_iC ?y_ks_int ?y_ks_NoneType ?y_ks_str ?y_ks_tuple ?y_ks_bool ?y_mkC ?y_keC ?y_q3 ?y_q4 ?y_q6 ?y_ne ?y_rdC ?y_gaC ?y_z_isinstance ?y_z_int ?y_z_bool ?y_z_str ?y_z_all ?y_z_range ?y_z_abs ?y_z_len ?y_z_list ?y_z_enumerate
    (case y_aC => k_is); (case y_a1 => k_is); (case y_i1 => k_is); (case y_l1 => k_is); (case y_c1 => k_is); (case y_k1 => k_is); (case y_a2 => k_is); (case y_r2 => k_is)
    (case y_g2 => k_is); (case y_l2 => k_is); (case y_c2 => k_is); (case y_k2 => k_is); (case y_a3 => k_is); (case y_g3 => k_is); (case y_t3 => k_is); (case y_r3 => k_is)
    (case y_l3 => k_is); (case y_c3 => k_is); (case y_k3 => k_is); (case y_a4 => k_is); (case y_g4 => k_is); (case y_t4 => k_is); (case y_r4 => k_is); (case y_l4 => k_is)
    (case y_c4 => k_is); (case y_k4 => k_is); (case y_a5 => k_is); (case y_i5 => k_is); (case y_l5 => k_is); (case y_c5 => k_is); (case y_k5 => k_is); (case y_a6 => k_is)
    (case y_i6 => k_is); (case y_l6 => k_is); (case y_c6 => k_is); (case y_k6 => k_is); (case y_a7 => k_is); (case y_i7 => k_is); (case y_l7 => k_is); (case y_c7 => k_is)
    (case y_k7 => k_is); (case y_a8 => k_is); (case y_i8 => k_is); (case y_l8 => k_is); (case y_c8 => k_is); (case y_k8 => k_is); (case y_a9 => k_is); (case y_i9 => k_is)
    (case y_l9 => k_is); (case y_c9 => k_is); (case y_k9 => k_is); (case y_a10 => k_is); (case y_i10 => k_is); (case y_l10 => k_is); (case y_c10 => k_is); (case y_k10 => k_is)
    (case y_a11 => k_is); (case y_i11 => k_is); (case y_l11 => k_is); (case y_c11 => k_is); (case y_k11 => k_is); (case y_a12 => k_is); (case y_i12 => k_is); (case y_l12 => k_is)
    (case y_c12 => k_is); (case y_k12 => k_is); (case y_a13 => k_is); (case y_i13 => k_is); (case y_l13 => k_is); (case y_c13 => k_is); (case y_k13 => k_is); (case y_a14 => k_is)
    (case y_l14 => k_is); (case y_c14 => k_is); (case y_k14 => k_is); (case y_a15 => k_is); (case y_l15 => k_is); (case y_c15 => k_is); (case y_k15 => k_is); (case y_a16 => k_is)
    (case y_l16 => k_is); (case y_c16 => k_is); (case y_k16 => k_is); (case y_a17 => k_is); (case y_l17 => k_is); (case y_c17 => k_is); (case y_k17 => k_is); (case y_a18 => k_is)
    (case y_l18 => k_is); (case y_c18 => k_is); (case y_k18 => k_is); (case y_a19 => k_is); (case y_l19 => k_is); (case y_c19 => k_is); (case y_k19 => k_is); (case y_a20 => k_is)
    (case y_r20 => k_is); (case y_h20 => k_is); (case y_u20 => k_is); (case y_g20 => k_is); (case y_t20 => k_is); (case y_l20 => k_is); (case y_c20 => k_is); (case y_k20 => k_is)
    (case y_a21 => k_is); (case y_l21 => k_is); (case y_c21 => k_is); (case y_k21 => k_is); (case y_pg => k_is); (case y_hd => k_is); (case y_po => k_is); (case y_sa => k_is)
    (case y_nN => k_is); (case y_nR => k_is); (case y_hc => k_is); (case y_hn => k_is); (case y_ht => k_is); (case y_hm => k_is); (case y_sf => k_is); (case y_tC => k_is)
    (case y_iC => k_is); (case y_ks_int => k_is); (case y_ks_NoneType => k_is); (case y_ks_str => k_is); (case y_ks_tuple => k_is); (case y_ks_bool => k_is); (case y_mkC => k_is); (case y_keC => k_is)
    (case y_q3 => k_is); (case y_q4 => k_is); (case y_q6 => k_is); (case y_ne => k_is); (case y_rdC => k_is); (case y_gaC => k_is); (case y_z_isinstance => k_is); (case y_z_int => k_is)
    (case y_z_bool => k_is); (case y_z_str => k_is); (case y_z_all => k_is); (case y_z_range => k_is); (case y_z_abs => k_is); (case y_z_len => k_is); (case y_z_list => k_is); (case y_z_enumerate => k_is)
#print axioms PySem.Challenge.cw_towgrove_k03_whole_sums_and_least_length_holds

