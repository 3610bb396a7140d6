import PyProof.Rows.All
import Wide.All
import OpenK.AllK
import Wide.FinOn
import HandS.ForMost
import PyProof.ReprRoads
import HandS.Wide
import HandS.Style
import HandS.Deep
import HandS.Walk
import KE.GoesMore
import HandS.IsInst
import PyProof.StrBlock2
import PyProof.Rows.StrMul
import KE.RegKIsAll
import PySem.Challenge.RW_towgrove_k34_rows_shortened
set_option Elab.async false
set_option linter.all false
set_option maxRecDepth 100000
set_option maxHeartbeats 4000000
/-! promises of defs where no repr is under way, and repr of lists and tuples -/
namespace Ow
open PySem PySem.Spec PyProof.Rows L2
/-- a promise that may use that nothing around is showing itself -/
structure FnOkG (P : Program) (w : World) (K : PySem.W.Frag) (mg : Str → Option Value) (base : Heap) (CX : CXT) (k : Nat) (f : Addr) (fd : FuncData) (ps : List Str) (sp : Sp) : Prop where
  len : ∀ us H Q E, sp us H Q E → us.length = ps.length
  go : ∀ (A : Around) (out : List Env) (s : Shared) (H : Hp) (ar : Args) (us : List Value) (vs : List V) (Q : VK) (E : XK), A.guards = some [] → Room k A → Env0 P w K mg base A out s H → BindsTo s fd ar (ps.zip us) → Vals vs us →
    sp vs H Q E → codeAny (model P w) A (.call (.ref f) ar) (CR CX out P w H s Q E) s
section
variable {P : Program} {w : World} {K : PySem.W.Frag} {mg : Str → Option Value} {base : Heap}
theorem FnOkG.of {CX : CXT} {k : Nat} {f : Addr} {fd : FuncData} {ps : List Str} {sp : Sp} (F : FnOk P w K mg base CX k f fd ps sp) : FnOkG P w K mg base CX k f fd ps sp :=
  ⟨F.len, fun A out s H ar us vs Q E _ hr e0 hb r h => F.run A out s H ar us vs Q E hr e0 hb r h⟩
theorem okG {x qual : Str} {st : Stmt} {f : Addr} {fd : FuncData} {N ps : List Str} {k : Nat} {sp : Sp} (F : Fun K x qual st f fd) (S : FnScope N ps (defScope st)) (len : ∀ vs H Q E, sp vs H Q E → vs.length = ps.length)
    (hbody : ∀ (cdv : Value) (A : Around) (outer : List Env) (s : Shared) (H : Hp) (vs : List V) (Q : VK) (E : XK), A.guards = some [] → Room k (A.deeper (envOfC qual (defScope st) s.heap.objs.size f cdv)) → sp vs H Q E →
      ∃ t, PSs (cxOf CX0 P w K mg base N qual (defScope st) f cdv A outer s H E).nox (defBody st) t ∧ t { nx := fun _ H' => Q .non H', rt := Q } (start N vs) H) : FnOkG P w K mg base CX0 (k + 1) f fd ps sp := by
  refine ⟨len, fun A out s H ar us vs Q E hg hr e0 hb r hsp => ?_⟩
  obtain ⟨oc, od, kV, doc, pm, an, cdv, ct, osl, rfl, lk, hcd⟩ := F.ex
  have hl := len _ _ _ _ hsp
  have KX : K.In s.heap := e0.mod.kin.keeps fun b o e => (e0.bs b o e).1
  have lim : s.heap.NoLimit := e0.mod.nolimit.keeps fun b o e => (e0.bs b o e).1
  refine codeAny_call_function hr.depth (KX _ _ lk) rfl S.co S.gen rfl (PySem.W.codeRec_of KX hcd) (hb _ _ _ _ ?_)
  refine wpAny_newFunctionEnv_cells S.kind (fun y hy => ?_) fun env he s1 x => ?_
  · rcases S.par y.1 (List.of_mem_zip hy).1 with q | q
    · exact .inl q
    · exact .inr ⟨q, PySem.W.cellsFrom_some _ _ _ (.inl q)⟩
  subst he
  refine ⟨lim.keeps x.toInCall.keep, codeAny_func ?_⟩
  obtain ⟨t, ht, hq⟩ := hbody cdv A out s H vs Q E hg (hr.deeper _) hsp
  have I := inv_start (CX := CX0) (P := P) (w := w) (K := K) (mg := mg) (base := base) (E := E) S hr.hd e0 hl r x
  refine wpAny_mono (ht.nox.run [] s1 (start N vs) H _ I hq) (fun fl s' hs => ?_) fun e s' hs => hs
  cases fl with
  | ret u =>
    obtain ⟨v, σ', H', J, rv, q⟩ := hs
    exact ⟨v, H', J.os, J.bare, J.base, J.hok, rv, q⟩
  | next =>
    obtain ⟨σ', H', J, q⟩ := hs
    exact ⟨.non, H', J.os, J.bare, J.base, J.hok, rfl, q⟩
  | brk => exact hs.choose_spec.choose_spec.2.elim
  | cont => exact hs.choose_spec.choose_spec.2.elim
section
variable {X : Cx} {CX : CXT} {k : Nat} {f : Addr} {fd : FuncData} {ps : List Str} {sp : Sp} {dvs : List V} {ds : List Value} {E : XK} {x : Str} {p pos : Pos} {e : Expr} {es : List Expr} {t : TA}
theorem run_G {pins : List (Addr × Obj)} {σ : L2.St} {H : Hp} {s : Shared} {Q : VK} {us : List Value} {vs : List V} (hg : X.A.guards = some []) (F : FnOkG X.prog X.w X.K X.mg X.base CX k f fd ps sp) (hr : Room k X.A) (hb : Binds X.K fd ps ds) (hd : Vals dvs ds)
    (hx : Passes CX X E) (I : Inv X pins σ H s) (r : Vals vs us) (h : sp (vs ++ dvs) H Q E) : wpAny (model X.prog X.w) X.A (call (.ref f) us) (EP X pins σ Q) X.xe s := by
  have r2 : Vals (vs ++ dvs) (us ++ ds) := r.append hd
  have hl := (F.len _ _ _ _ h).symm.trans r2.length
  refine wpAny_call (codeAny_mono (F.go X.A X.stack s H ⟨us, []⟩ _ _ Q E hg hr I.env0 (hb s us I.kIn hl.symm) r2 h) fun res s' hq => ?_)
  cases res with
  | error er => exact hx pins σ H s er s' I hq
  | ok fl => cases fl <;> first | exact I.after hq | exact False.elim hq
theorem pe_callG (hg : X.A.guards = some []) (F : FnOkG X.prog X.w X.K X.mg X.base CX k f fd ps sp) (hr : Room k X.A) (gl : Gl X x) (hm : X.mg x = some (.ref f)) (hk : PySem.W.keepIn X.K (.ref f) = true) (hb : Binds X.K fd ps ds) (hd : Vals dvs ds)
    (hx : Passes CX X E) (ha : PA X (e :: es) t) (hdb : (x == ("__debug__" : Str)) = false := by decide) (he : starEach (e :: es) X.env = (false, eval e X.env) :: starEach es X.env := by rfl)
    (hpl : (backTo pos (starEach es X.env)).any (·.1) = false := by rfl) : PE X (.Call (.Name x p) (e :: es) [] pos) (tCall sp dvs E t) := by
  refine ⟨fun pins s σ H Q I h => wpAny_Call_Name_kw (ld_glob I gl hm ?_ hdb)⟩
  refine PySem.W.callWith_K (h₀ := X.base) I.ok.mod.kin hk (thn (ha.run pos pins s σ H _ I h) fun us s1 z => ?_) he hpl
  obtain ⟨vs, H1, I1, r, q⟩ := z
  exact ⟨I1.kIn, run_G hg F hr hb hd hx I1 r q⟩
/-- repr of a list or tuple of plain data -/
def rReprD (K : PySem.W.Frag) : List V → Hp → VK → Prop := fun xs H Q => ∃ a d, xs = [.ref a] ∧ Dp K H (.ref a) d ∧ d.showable = true ∧ d.hasDict = false ∧ d.depth ≤ 64 ∧ d.shown.length ≤ sizeLine ∧ Q (.str d.shown) H
theorem call_reprD (hg : X.A.guards = some []) (hr : Room k X.A) : CallR X (.builtin "repr") (rReprD X.K) := by
  intro pins s σ H xs us Q I r h
  obtain ⟨a, d, rfl, D, sh, nd, dp, sz, q⟩ := h
  cases r with
  | cons r1 rn =>
    cases rn
    cases (show _ = Value.ref a from r1)
    obtain ⟨as, R⟩ := D.reads I d _ _ rfl
    have hu := hr.un
    refine repr_of_reads' R sh (fun z => by rw [nd] at z; cases z) hg (by omega) (fun _ _ z => z) (fun h' u tk hk => ?_) sz
    exact ⟨.str d.shown, H, I.kept hk, ⟨u, rfl⟩, q⟩
end
end
end Ow

namespace Tg
open PySem L2 Ow
/-! ### the box of draws -/
def kvsB (L : Addr) (now seed turn : Int) : List (Key × V) := [(.inr "great", .ref L), (.inr "now", .int now), (.inr "seed", .int seed), (.inr "turn", .int turn)]
theorem n_great_now : ¬ ((.inr "great" : Key) = .inr "now") := by decide +kernel
theorem n_great_seed : ¬ ((.inr "great" : Key) = .inr "seed") := by decide +kernel
theorem n_great_turn : ¬ ((.inr "great" : Key) = .inr "turn") := by decide +kernel
theorem n_now_great : ¬ ((.inr "now" : Key) = .inr "great") := by decide +kernel
theorem n_now_seed : ¬ ((.inr "now" : Key) = .inr "seed") := by decide +kernel
theorem n_now_turn : ¬ ((.inr "now" : Key) = .inr "turn") := by decide +kernel
theorem n_seed_great : ¬ ((.inr "seed" : Key) = .inr "great") := by decide +kernel
theorem n_seed_now : ¬ ((.inr "seed" : Key) = .inr "now") := by decide +kernel
theorem n_seed_turn : ¬ ((.inr "seed" : Key) = .inr "turn") := by decide +kernel
theorem n_turn_great : ¬ ((.inr "turn" : Key) = .inr "great") := by decide +kernel
theorem n_turn_now : ¬ ((.inr "turn" : Key) = .inr "now") := by decide +kernel
theorem n_turn_seed : ¬ ((.inr "turn" : Key) = .inr "seed") := by decide +kernel
theorem vB_great (L : Addr) (now seed turn : Int) : valV (kvsB L now seed turn) (.inr "great" : Key) = some (.ref L) := by
  unfold kvsB
  rw [valV_pos rfl]
theorem vB_now (L : Addr) (now seed turn : Int) : valV (kvsB L now seed turn) (.inr "now" : Key) = some (.int now) := by
  unfold kvsB
  rw [valV_neg n_great_now, valV_pos rfl]
theorem vB_seed (L : Addr) (now seed turn : Int) : valV (kvsB L now seed turn) (.inr "seed" : Key) = some (.int seed) := by
  unfold kvsB
  rw [valV_neg n_great_seed, valV_neg n_now_seed, valV_pos rfl]
theorem vB_turn (L : Addr) (now seed turn : Int) : valV (kvsB L now seed turn) (.inr "turn" : Key) = some (.int turn) := by
  unfold kvsB
  rw [valV_neg n_great_turn, valV_neg n_now_turn, valV_neg n_seed_turn, valV_pos rfl]
theorem pB_now (L : Addr) (now seed turn z : Int) : putK (kvsB L now seed turn) (.inr "now" : Key) (.int z) = kvsB L z seed turn := by
  have e1 : ¬ ((.inr "great" : Key) = .inr "now") := by decide +kernel
  have e2 : ¬ ((.inr "seed" : Key) = .inr "now") := by decide +kernel
  have e3 : ¬ ((.inr "turn" : Key) = .inr "now") := by decide +kernel
  unfold kvsB putK
  simp [e1, e2, e3]
theorem pB_seed (L : Addr) (now seed turn z : Int) : putK (kvsB L now seed turn) (.inr "seed" : Key) (.int z) = kvsB L now z turn := by
  have e1 : ¬ ((.inr "great" : Key) = .inr "seed") := by decide +kernel
  have e2 : ¬ ((.inr "now" : Key) = .inr "seed") := by decide +kernel
  have e3 : ¬ ((.inr "turn" : Key) = .inr "seed") := by decide +kernel
  unfold kvsB putK
  simp [e1, e2, e3]
theorem pB_turn (L : Addr) (now seed turn z : Int) : putK (kvsB L now seed turn) (.inr "turn" : Key) (.int z) = kvsB L now seed z := by
  have e1 : ¬ ((.inr "great" : Key) = .inr "turn") := by decide +kernel
  have e2 : ¬ ((.inr "now" : Key) = .inr "turn") := by decide +kernel
  have e3 : ¬ ((.inr "seed" : Key) = .inr "turn") := by decide +kernel
  unfold kvsB putK
  simp [e1, e2, e3]
theorem z_great_now : ¬ (("great" : Str) = "now") := by decide +kernel
theorem z_great_seed : ¬ (("great" : Str) = "seed") := by decide +kernel
theorem z_great_turn : ¬ (("great" : Str) = "turn") := by decide +kernel
theorem z_now_great : ¬ (("now" : Str) = "great") := by decide +kernel
theorem z_now_seed : ¬ (("now" : Str) = "seed") := by decide +kernel
theorem z_now_turn : ¬ (("now" : Str) = "turn") := by decide +kernel
theorem z_seed_great : ¬ (("seed" : Str) = "great") := by decide +kernel
theorem z_seed_now : ¬ (("seed" : Str) = "now") := by decide +kernel
theorem z_seed_turn : ¬ (("seed" : Str) = "turn") := by decide +kernel
theorem z_turn_great : ¬ (("turn" : Str) = "great") := by decide +kernel
theorem z_turn_now : ¬ (("turn" : Str) = "now") := by decide +kernel
theorem z_turn_seed : ¬ (("turn" : Str) = "seed") := by decide +kernel
theorem merge_kvsB (L : Addr) (now seed turn : Int) : mergeK [] (kvsB L now seed turn) = kvsB L now seed turn := by
  unfold kvsB mergeK
  simp [putK, z_great_now, z_great_seed, z_great_turn, z_now_seed, z_now_turn, z_seed_turn]
/-- the box at b, its great cells at L -/
structure BoxAt (H : Hp) (b L : Addr) (gs : List Int) (now seed turn : Int) : Prop where
  dc : H b = some (.dK (kvsB L now seed turn))
  ls : H L = some (.lst (gs.map V.int))
  now0 : 0 ≤ now
  seed0 : 0 ≤ seed
  seed1 : seed ≤ 2147483648
  pos : ∀ g ∈ gs, 0 ≤ g
def Box (b L : Addr) (H : Hp) : Prop := ∃ gs now seed turn, BoxAt H b L gs now seed turn
/-- all but the box stands as it stood -/
def Kp (b L : Addr) (H H' : Hp) : Prop := ∀ a o, a ≠ b → a ≠ L → H a = some o → H' a = some o
theorem Kp.refl (b L : Addr) (H : Hp) : Kp b L H H := fun _ _ _ _ h => h
theorem Kp.trans {b L : Addr} {H H1 H2 : Hp} (x : Kp b L H H1) (y : Kp b L H1 H2) : Kp b L H H2 := fun a o n1 n2 h => y a o n1 n2 (x a o n1 n2 h)
theorem BoxAt.ne {H : Hp} {b L : Addr} {gs : List Int} {now seed turn : Int} (B : BoxAt H b L gs now seed turn) : b ≠ L := ne_of B.dc B.ls (by intro z; cases z)
theorem BoxAt.put {H : Hp} {b L : Addr} {gs : List Int} {now seed turn now' seed' turn' : Int} (B : BoxAt H b L gs now seed turn) (h0 : 0 ≤ now') (h1 : 0 ≤ seed') (h2 : seed' ≤ 2147483648) :
    BoxAt (upd H b (.dK (kvsB L now' seed' turn'))) b L gs now' seed' turn' ∧ Kp b L H (upd H b (.dK (kvsB L now' seed' turn'))) :=
  ⟨⟨upd_same, by rw [upd_ne B.ne.symm]; exact B.ls, h0, h1, h2, B.pos⟩, fun a o n1 _ h => by rw [upd_ne n1]; exact h⟩
theorem BoxAt.pop {H : Hp} {b L : Addr} {gs : List Int} {now seed turn : Int} (B : BoxAt H b L gs now seed turn) :
    BoxAt (upd H L (.lst (gs.map V.int).dropLast)) b L gs.dropLast now seed turn ∧ Kp b L H (upd H L (.lst (gs.map V.int).dropLast)) :=
  ⟨⟨by rw [upd_ne B.ne]; exact B.dc, by rw [upd_same, List.map_dropLast], B.now0, B.seed0, B.seed1, fun g h => B.pos g (List.dropLast_subset _ h)⟩, fun a o _ n2 h => by rw [upd_ne n2]; exact h⟩

theorem dget_of {H : Hp} {a : Addr} {kvs : List (Key × V)} {k : Key} {v : V} (e : H a = some (.dK kvs)) (h : valV kvs k = some v) : DGet H a (kV k) (some v) := by
  rw [← h]
  exact DGet.k e
theorem dput_of {H : Hp} {a : Addr} {kvs kvs' : List (Key × V)} {k : Key} {v : V} (e : H a = some (.dK kvs)) (h : putK kvs k v = kvs') (hl : kvs.length < sizeLine) : DPut H a (kV k) v (upd H a (.dK kvs')) := by
  rw [← h]
  exact DPut.k e hl
section
variable {H : Hp} {b L : Addr} {gs : List Int} {now seed turn : Int}
theorem kvsB_len : (kvsB L now seed turn).length < sizeLine := by
  show 4 < sizeLine
  decide
theorem BoxAt.ggreat (B : BoxAt H b L gs now seed turn) : DGet H b (.str "great") (some (.ref L)) := dget_of (k := .inr "great") B.dc (vB_great _ _ _ _)
theorem BoxAt.gnow (B : BoxAt H b L gs now seed turn) : DGet H b (.str "now") (some (.int now)) := dget_of (k := .inr "now") B.dc (vB_now _ _ _ _)
theorem BoxAt.gseed (B : BoxAt H b L gs now seed turn) : DGet H b (.str "seed") (some (.int seed)) := dget_of (k := .inr "seed") B.dc (vB_seed _ _ _ _)
theorem BoxAt.gturn (B : BoxAt H b L gs now seed turn) : DGet H b (.str "turn") (some (.int turn)) := dget_of (k := .inr "turn") B.dc (vB_turn _ _ _ _)
theorem BoxAt.pnow (B : BoxAt H b L gs now seed turn) (z : Int) : DPut H b (.str "now") (.int z) (upd H b (.dK (kvsB L z seed turn))) := dput_of (k := .inr "now") B.dc (pB_now _ _ _ _ _) kvsB_len
theorem BoxAt.pseed (B : BoxAt H b L gs now seed turn) (z : Int) : DPut H b (.str "seed") (.int z) (upd H b (.dK (kvsB L now z turn))) := dput_of (k := .inr "seed") B.dc (pB_seed _ _ _ _ _) kvsB_len
theorem BoxAt.pturn (B : BoxAt H b L gs now seed turn) (z : Int) : DPut H b (.str "turn") (.int z) (upd H b (.dK (kvsB L now seed z))) := dput_of (k := .inr "turn") B.dc (pB_turn _ _ _ _ _) kvsB_len
end
/-- what follows is shown once, for all ways of what stands ahead -/
theorem seq_rest {t u : TS} {D : Ends} {σ : St} {H : Hp} (W : St → Hp → Prop) (h2 : ∀ σ' H', W σ' H' → u D σ' H') (h1 : (∀ σ' H', W σ' H' → u D σ' H') → t { D with nx := u D } σ H) : tSeq t u D σ H := h1 h2
theorem pos_lit {j : Int} (h : 0 < j) : 0 < j := h
/-! ### a draw -/
def spTake : Sp := fun vs H Q _ => ∃ (b L : Addr) (m : Int), vs = [.ref b, .int m] ∧ 0 < m ∧ m.natAbs.log2 < 9000 ∧ Box b L H ∧
  ∀ (d : Int) (H' : Hp), 0 ≤ d → d < m → Box b L H' → Kp b L H H' → Q (.int d) H'
/-! ### the promise of the box's maker -/
def spBox (K : PySem.W.Frag) : Sp := fun vs H Q _ => ∃ (a : Addr) (ns : List Int) (e : Int), vs = [.ref a, .int e] ∧ SqL K H a (ns.map V.int) ∧ ns.length ≤ 63 ∧ 0 ≤ e ∧ e ≤ 1000 ∧
  ∀ (b L : Addr) (H' : Hp), H b = none → H L = none → Same H H' → Box b L H' → Q (.ref b) H'
theorem cut_ints (ns : List Int) (lo hi : Option Int) : ∃ ms : List Int, cutV (ns.map V.int) lo hi = ms.map V.int ∧ ms.length ≤ ns.length := by
  refine ⟨(ns.drop (HT.sIx (ns.map V.int).length 0 lo)).take (HT.sIx (ns.map V.int).length (ns.map V.int).length hi - HT.sIx (ns.map V.int).length 0 lo), ?_, ?_⟩
  · unfold cutV
    rw [List.map_take, List.map_drop]
  · rw [List.length_take, List.length_drop]
    omega
theorem ints_at {ns : List Int} {i : Nat} {y : V} (h : (ns.map V.int)[i]? = some y) : ∃ z, ns[i]? = some z ∧ y = V.int z := by
  rw [List.getElem?_map] at h
  cases e : ns[i]? with
  | none => rw [e] at h; cases h
  | some z => rw [e] at h; exact ⟨z, rfl, (Option.some.inj h).symm⟩
theorem same_upd {H H' : Hp} {p : Addr} {o : HO} (s : Same H H') (n : H p = none) : Same H (upd H' p o) := fun b u e => by
  rw [upd_ne (ne_of_none e n)]
  exact s b u e

/-! ### a def that is called by its name -/
structure Cal (P : Program) (w : World) (K : PySem.W.Frag) (mg : Str → Option Value) (base : Heap) (k : Nat) (x : Str) (ps : List Str) (sp : Sp) : Prop where
  ex : ∃ f fd, FnOk P w K mg base CX0 k f fd ps sp ∧ mg x = some (.ref f) ∧ PySem.W.keepIn K (.ref f) = true ∧ Binds K fd ps []
structure CalG (P : Program) (w : World) (K : PySem.W.Frag) (mg : Str → Option Value) (base : Heap) (k : Nat) (x : Str) (ps : List Str) (sp : Sp) : Prop where
  ex : ∃ f fd, FnOkG P w K mg base CX0 k f fd ps sp ∧ mg x = some (.ref f) ∧ PySem.W.keepIn K (.ref f) = true ∧ Binds K fd ps []
section
variable {X : Cx} {k j : Nat} {x : Str} {ps : List Str} {sp : Sp} {p pos : Pos} {e : Expr} {es : List Expr} {t : TA}
theorem pe_cal (c : Cal X.prog X.w X.K X.mg X.base k x ps sp) (hr : Room k X.A) (hg : Gl X x) (ha : PA X (e :: es) t) (hdb : (x == ("__debug__" : Str)) = false := by decide)
    (he : starEach (e :: es) X.env = (false, eval e X.env) :: starEach es X.env := by rfl) (hpl : (backTo pos (starEach es X.env)).any (·.1) = false := by rfl) :
    PE X (.Call (.Name x p) (e :: es) [] pos) (tCall sp [] E0 t) := by
  obtain ⟨f, fd, F, hm, hk, hb⟩ := c.ex
  exact pe_call F hr hg hm hk hb .nil pass0 ha hdb he hpl
theorem pe_calG (c : CalG X.prog X.w X.K X.mg X.base k x ps sp) (gd : X.A.guards = some []) (hr : Room k X.A) (hg : Gl X x) (ha : PA X (e :: es) t) (hdb : (x == ("__debug__" : Str)) = false := by decide)
    (he : starEach (e :: es) X.env = (false, eval e X.env) :: starEach es X.env := by rfl) (hpl : (backTo pos (starEach es X.env)).any (·.1) = false := by rfl) :
    PE X (.Call (.Name x p) (e :: es) [] pos) (tCall sp [] E0 t) := by
  obtain ⟨f, fd, F, hm, hk, hb⟩ := c.ex
  exact pe_callG gd F hr hg hm hk hb .nil pass0 ha hdb he hpl
end
end Tg

/-! the end of a law whose own def may show lists: nothing around it is showing itself -/
namespace Ow
open PySem PySem.Spec PyProof.Rows L2
section
variable {P : Program} {w : World} {K : PySem.W.Frag} {mg mb : Str → Option Value}
/-- the call, from one abstract heap H that tracks nothing but the script at a -/
theorem call_from {k : Nat} {fa a : Addr} {fd : FuncData} {x : Str} {sp : Sp} {s1 : Shared} {H : Hp} {oa : Obj} {es : Array Value} {ep : Nat} (ea : s1.heap.get? a = some oa) (da : oa.data = .seq es ep)
    (kIn : K.In s1.heap) (ns : s1.heap.Ns mainGlobals mg) (nb : s1.heap.Ns builtinsNs mb) (bb : ∀ y : Str, y ≠ "__name__" → mb y = bootBuiltins y) (lim : s1.heap.NoLimit) (hg : s1.gens = #[]) (hr : Room k callerA)
    (F : ∀ base : Heap, K.In base → base.Ns mainGlobals mg → FnOkG P w K mg base CX0 k fa fd [x] sp) (hbind : ∀ (s : Shared) (u : Value), BindsTo s fd ⟨[u], []⟩ [(x, u)])
    (only : Only H) (hok : HOk P w H s1.heap) (alone : ∀ b, H b ≠ none → b = a) (noK : H a ≠ none → K.lookup a = none) (hsp : sp [.ref a] H (fun v _ => v = .bl true) fun _ _ _ => False) :
    codeAny (model P w) callerA (.call (.ref fa) ⟨[.ref a], []⟩) (fun r s' => r = .ok (.ret (.bool true)) ∧ OldK s1.heap s'.heap ∧ s'.os = s1.os ∧ AllBare s'.gens) s1 := by
  have free : ∀ b, b ≠ a → H b = none := fun b hb => by
    cases q : H b with
    | none => rfl
    | some u => exact absurd (alone b (by simp [q])) hb
  have unseq : ∀ {b : Addr} {m : Str → Option Value}, s1.heap.Ns b m → b ≠ a := fun {b m} ⟨o, is, ip, e, d, _⟩ z => by
    subst z
    cases ea.symm.trans e
    cases da.symm.trans d
  have same : ∀ {b : Addr} {m : Str → Option Value}, s1.heap.Ns b m → (hidT s1.heap H).Ns b m := fun {b m} z => by
    have hb := unseq z
    obtain ⟨o, is, ip, e, r⟩ := z
    exact ⟨o, is, ip, hidT_get e (free b hb), r⟩
  have kB : K.In (hidT s1.heap H) := fun b o e => by
    refine hidT_get (kIn b o e) ?_
    by_cases hb : b = a
    · cases q : H b with
      | none => rfl
      | some u => subst hb; rw [noK (by simp [q])] at e; cases e
    · exact free b hb
  have limB : (hidT s1.heap H).NoLimit := by
    obtain ⟨mc, h1, h2⟩ := lim
    exact ⟨mc, same h1, h2⟩
  have md : Mod K mg (hidT s1.heap H) := { kin := kB, glob := same ns, blt := ⟨mb, same nb, bb⟩, nolimit := limB }
  have e0 : Env0 P w K mg (hidT s1.heap H) callerA [] s1 H :=
    { frames := rfl, mod := md, bs := fun b o e => of_hidT e, bsz := Nat.le_of_eq (hidT_size _ _), funs := trivial, frf := fun b hb => (List.not_mem_nil hb).elim, hok := hok, bare := .of_eq hg }
  have run := (F _ kB (same ns)).go callerA [] s1 H ⟨[.ref a], []⟩ [.ref a] [.ref a] _ _ rfl hr e0 (hbind s1 (.ref a)) (.cons rfl .nil) hsp
  refine codeAny_mono run fun r s' h => ?_
  match r, h with
  | .error e, h => exact h.elim
  | .ok .next, h => exact h.elim
  | .ok .brk, h => exact h.elim
  | .ok .cont, h => exact h.elim
  | .ok (.ret u), ⟨v, H', os, bare, un, hok', rv, q⟩ =>
    cases (show v = .bl true from q)
    cases (show u = Value.bool true from rv)
    refine ⟨rfl, OldK.of_keep fun b o e => ?_, os, bare⟩
    rcases only b with z | ⟨ob, xs, z⟩
    · exact un.keep b o e z (fun y => (List.not_mem_nil y).elim) List.not_mem_nil
    · obtain ⟨e1, _⟩ := hok b _ z
      obtain ⟨e2, _⟩ := hok' b _ (un.frzs b ob _ z)
      cases e.symm.trans e1
      exact e2
theorem call_G {k : Nat} {fa a : Addr} {fd : FuncData} {x : Str} {sp : Sp} {s1 : Shared} {vs : List Value} {ns : List Int} (kIn : K.In s1.heap) (hn : s1.heap.Ns mainGlobals mg) (nb : s1.heap.Ns builtinsNs mb)
    (bb : ∀ y : Str, y ≠ "__name__" → mb y = bootBuiltins y) (lim : s1.heap.NoLimit) (hg : s1.gens = #[]) (ha : s1.heap.get? a = some { cls := .type "list", data := .seq vs.toArray }) (hi : IntsAre vs ns) (hl : ns.length ≤ sizeLine) (hr : Room k callerA)
    (F : ∀ base : Heap, K.In base → base.Ns mainGlobals mg → FnOkG P w K mg base CX0 k fa fd [x] sp) (hbind : ∀ (s : Shared) (u : Value), BindsTo s fd ⟨[u], []⟩ [(x, u)])
    (hsp : ∀ H : Hp, Only H → SqL K H a (ns.map V.int) → sp [.ref a] H (fun v _ => v = .bl true) fun _ _ _ => False) :
    codeAny (model P w) callerA (.call (.ref fa) ⟨[.ref a], []⟩) (fun r s' => r = .ok (.ret (.bool true)) ∧ OldK s1.heap s'.heap ∧ s'.os = s1.os ∧ AllBare s'.gens) s1 := by
  have rv := vals_ints hi
  cases hk : K.lookup a with
  | some o =>
    cases ha.symm.trans (kIn a o hk)
    have on : Only (fun _ => none) := fun _ => .inl rfl
    exact call_from ha rfl kIn hn nb bb lim hg hr F hbind on (fun b u z => nomatch z) (fun b z => absurd rfl z) (fun z => absurd rfl z) (hsp _ on (.inr ⟨_, vs.toArray, _, hk, rfl, rfl, rfl, by rw [List.size_toArray, hi.length]; exact hl, by simpa using rv⟩))
  | none =>
    let H : Hp := upd (fun _ => none) a (.frz { cls := .type "list", data := .seq vs.toArray } (.lst (ns.map V.int)))
    have at_ : H a = some (.frz { cls := .type "list", data := .seq vs.toArray } (.lst (ns.map V.int))) := upd_same
    have off : ∀ b, b ≠ a → H b = none := fun b hb => upd_ne hb
    have on : Only H := fun b => by
      by_cases hb : b = a
      · subst hb; exact .inr ⟨_, _, at_⟩
      · exact .inl (off b hb)
    refine call_from ha rfl kIn hn nb bb lim hg hr F hbind on (fun b u z => ?_) (fun b z => ?_) (fun _ => hk) (hsp _ on (.inl (.inr ⟨_, at_⟩)))
    · by_cases hb : b = a
      · subst hb
        cases at_.symm.trans z
        exact ⟨ha, by rw [List.length_map]; exact hl, vs, _, rv, ha⟩
      · cases (off b hb).symm.trans z
    · by_cases hb : b = a
      · exact hb
      · exact absurd (off b hb) z
end
theorem walk_G {l : PySem.W.OpenLaw} {n k : Nat} {q : Program} {loose : List Str} {XP : (Str → Option Value) → Heap → Prop} {YP : World → Heap → Prop} {d : DefRec} {K : Params → PySem.W.Frag} {sp : World → Sp} {x : Str}
    (hn : l.most = some n) (hn2 : n ≤ sizeLine) (hdf : d.params.defaults = []) (hr : Room k callerA) (hY : ∀ (w : World) (h : Heap), YP w h → (K w.params).In h)
    (F : ∀ (w : World) (mg : Str → Option Value) (fa : Addr) (h : Heap), (K w.params).In h → h.Ns mainGlobals mg → mg d.name = some (.ref fa) →
      ∃ fd : FuncData, (∀ (s : Shared) (u : Value), BindsTo s fd ⟨[u], []⟩ [(x, u)]) ∧ ∀ base : Heap, (K w.params).In base → base.Ns mainGlobals mg → FnOkG l.prog w (K w.params) mg base CX0 k fa fd [x] (sp w))
    (hsp : ∀ (w : World) (H : Hp) (a : Addr) (ns : List Int), ns.length ≤ n → SqL (K w.params) H a (ns.map V.int) → sp w [.ref a] H (fun v _ => v = .bl true) fun _ _ _ => False) :
    PySem.W.WalkO q loose XP YP l.row.toRowW d [] (fun f vs => PySem.call f vs) := by
  refine Att.attach_call hn hdf fun w s0 s1 mg mb fa o pm cd doc a vs ns G Y ho hd hcd hmg hobj hints hlen hg => ?_
  have kx := hY w _ Y
  obtain ⟨fd, hb, hF⟩ := F w mg fa _ kx G.T.g hmg
  exact call_G kx G.T.g G.T.b G.T.builtins G.T.nolimit hg hobj hints (Nat.le_trans hlen hn2) hr hF hb fun H _ hS => hsp w H a ns hlen hS
end Ow

/-! x in t, x not in t: t a tuple of data of any depth; pairs of texts in a tuple of such pairs -/
namespace Ow
open PySem PySem.Spec PyProof.Rows L2
section
variable {X : Cx}
def rInT (K : PySem.W.Frag) (neg : Bool) : R2 := fun x y H Q => ∃ d ds, Dp K H x d ∧ Dp K H y (.tuple ds) ∧ SeqAt.shaped d = true ∧ SeqAt.shaped (.tuple ds) = true ∧ Q (.bl (if neg then !(ds.any fun z => PyData.eqv z d) else ds.any fun z => PyData.eqv z d)) H
theorem op_inT (hu : X.A.units + 65 < cLine) : OpR X (compareOp .In) (rInT X.K false) := by
  intro pins s σ H x y v u Q I rx ry h
  obtain ⟨d, ds, hd, he, sd, se, q⟩ := h
  obtain ⟨as, a1⟩ := Dp.reads I d x v hd rx
  obtain ⟨bs, b1⟩ := Dp.reads I (.tuple ds) y u he ry
  exact SeqAt.in_tuple_reads b1 a1 (SeqAt.canLay_of_shaped se) (SeqAt.canLay_of_shaped sd) (room_in_shaped sd hu) ⟨.bl _, H, I, rfl, q⟩
theorem op_notInT (hu : X.A.units + 65 < cLine) : OpR X (compareOp .NotIn) (rInT X.K true) := by
  intro pins s σ H x y v u Q I rx ry h
  obtain ⟨d, ds, hd, he, sd, se, q⟩ := h
  obtain ⟨as, a1⟩ := Dp.reads I d x v hd rx
  obtain ⟨bs, b1⟩ := Dp.reads I (.tuple ds) y u he ry
  exact SeqAt.notIn_tuple_reads b1 a1 (SeqAt.canLay_of_shaped se) (SeqAt.canLay_of_shaped sd) (room_in_shaped sd hu) ⟨.bl _, H, I, rfl, q⟩
theorem op_inTK (K : PySem.W.Frag) (hu : X.A.units + 65 < cLine) (hK : X.K = K := by rfl) : OpR X (compareOp .In) (rInT K false) := by
  rw [← hK]
  exact op_inT hu
/-- pairs of texts -/
def pD (p : Str × Str) : PyData := .tuple [.str p.1, .str p.2]
theorem pD_eqv (p q : Str × Str) : PyData.eqv (pD p) (pD q) = decide (p = q) := by
  obtain ⟨a, b⟩ := p
  obtain ⟨c, d⟩ := q
  simp only [pD, PyData.eqv, PyData.eqvAll]
  by_cases h1 : a = c <;> by_cases h2 : b = d <;> simp [h1, h2]
theorem pD_shaped {p : Str × Str} (h1 : PyData.strOk p.1 = true) (h2 : PyData.strOk p.2 = true) : SeqAt.shaped (pD p) = true := by simp [SeqAt.shaped, pD, PyData.canLay0, PyData.canLayAll0, PyData.depth, PyData.depthAll, h1, h2]
theorem pDs_shaped {es : List (Str × Str)} (h : ∀ p ∈ es, PyData.strOk p.1 = true ∧ PyData.strOk p.2 = true) : SeqAt.shaped (.tuple (es.map pD)) = true := by
  have z : PyData.canLayAll0 (es.map pD) = true ∧ PyData.depthAll (es.map pD) ≤ 1 := by
    induction es with
    | nil => exact ⟨rfl, by decide⟩
    | cons e es ih =>
      obtain ⟨z1, z2⟩ := ih fun p hp => h p (List.mem_cons_of_mem _ hp)
      obtain ⟨y1, y2⟩ := h e List.mem_cons_self
      refine ⟨?_, ?_⟩
      · simp [PyData.canLayAll0, z1, pD, PyData.canLay0, y1, y2]
      · simp [PyData.depthAll, pD, PyData.depth]
        omega
  have d : PyData.depthAll (es.map pD) + 1 ≤ 64 := by omega
  simp [SeqAt.shaped, PyData.canLay0, PyData.depth, z.1, d]
theorem pD_any (es : List (Str × Str)) (q : Str × Str) : ((es.map pD).any fun z => PyData.eqv z (pD q)) = decide (q ∈ es) := by
  induction es with
  | nil => rfl
  | cons e es ih =>
    simp only [List.map_cons, List.any_cons, ih, pD_eqv]
    by_cases h : e = q
    · subst h
      simp
    · have h2 : ¬ q = e := fun z => h z.symm
      simp [h, h2]
end
end Ow

/-! enumerate(xs) for a tuple, and for what is a list or a tuple -/
namespace Ow
open PySem PySem.Spec PyProof.Rows L2
set_option maxHeartbeats 1000000 in
theorem meets_en1 {v : Value} {o : Obj} {H : Heap → Prop} (B : Begins v o H) :
    Meets (Builtin.«enumerate.__new__» ⟨[.type "enumerate", v], []⟩)
      (fun _ R s => H s.heap ∧
        R (.ok (.ret (.ref (s.heap.push o).objs.size)))
          { s with heap := (s.heap.push o).push { cls := .type "enumerate", data := .fields #[.none, .bool false, .ref s.heap.objs.size, rawInt 0, .none, .none] } }) :=
  .of_wp fun prog w A R s ⟨hH, hR⟩ => by
    obtain ⟨hp, gg, dd, kk, oo⟩ := s
    have su := sub_enumerate
    have go : ∀ {A1 : Around} {E1 Q1 : Value → Shared → Prop}, Q1 (.ref hp.objs.size) ⟨hp.push o, gg, dd, kk, oo⟩ → wpAny (model prog w) A1 (pyIter v) Q1 E1 ⟨hp, gg, dd, kk, oo⟩ :=
      fun q => B.iter prog w _ _ ⟨hp, gg, dd, kk, oo⟩ _ hH q
    wp_walk using go
    refine wpAny_stack_any fun st => wpAny_pure ?_
    split
    · rename_i c _ _ _ _ _
      cases (c == Value.type "enumerate") <;> (wp_walk using go; exact ⟨_, rfl, hR⟩)
    · (wp_walk using go; exact ⟨_, rfl, hR⟩)
section
variable {prog : Program} {w : World} {A : Around} {E : Value → Shared → Prop} {s : Shared}
/-- the call enumerate(v): two new cells -/
theorem call_en1 {v : Value} {o : Obj} {H : Heap → Prop} {Q : Value → Shared → Prop} (B : Begins v o H) (hH : H s.heap)
    (q : ∀ g, IsEnum g (s.heap.objs.size + 1) s.heap.objs.size 0 .none → g.get? s.heap.objs.size = some o → g.objs.size = s.heap.objs.size + 2 →
      (∀ b z, s.heap.get? b = some z → g.get? b = some z) → Q (.ref (s.heap.objs.size + 1)) { s with heap := g }) :
    wpAny (model prog w) A (call (.type "enumerate") [v]) Q E s := by
  refine callType_new F.called_enumerate (by decide) (F.typeCall_enumerate_1 _) (F.newCall_enumerate_1 _)
    (fun ob => F.args_object_init_2 ob _) F.entry_enumerate_new (meets_en1 B) ⟨hH, ?_⟩
  have z1 : (s.heap.push o).objs.size = s.heap.objs.size + 1 := Heap.size_push ..
  show _ ∧ _
  rw [z1]
  have en : IsEnum ((s.heap.push o).push { cls := .type "enumerate", data := .fields #[.none, .bool false, .ref s.heap.objs.size, rawInt 0, .none, .none] })
      (s.heap.objs.size + 1) s.heap.objs.size 0 .none := by
    have y := Heap.get?_push_size (s.heap.push o) (o := { cls := .type "enumerate", data := .fields #[.none, .bool false, .ref s.heap.objs.size, rawInt 0, .none, .none] }) rfl
    rw [z1] at y
    exact y
  exact ⟨⟨_, en, rfl⟩, q _ en (Heap.get?_push_of_some _ (Heap.get?_push_size _ B.free)) (by rw [Heap.size_push, z1]) fun b z hb => Heap.get?_push_of_some _ (Heap.get?_push_of_some _ hb)⟩
end
/-- the tuple at a, its items by their places, each time in a new pair -/
def Itet (K : PySem.W.Frag) (a : Addr) : It :=
  ⟨fun i H => ∃ (l : List V) (y : V), SqT K H a l ∧ l[i]? = some y,
   fun i H v G => ∃ c y, v = .ref c ∧ H c = none ∧ G = upd H c (.tup [.int (i : Nat), y]) ∧ ∀ l, SqT K H a l → l[i]? = some y,
   fun i H => ∃ l : List V, SqT K H a l ∧ l.length ≤ i⟩
theorem turn_enT {P : Program} {w : World} {K : PySem.W.Frag} {elts : List Expr} {kk : Nat} {tpos : Pos} (a e it : Addr) :
    Turn P w K (.Tuple elts kk tpos) (Itet K a) [e, it] e (fun i h => (∃ old, IsEnum h e it ((i : Nat) : Int) old) ∧ h.IsTupleIter it a i ∧ e ≠ it) where
  mem := by simp
  obj := fun i h st b hb => by
    obtain ⟨⟨old, he⟩, ⟨o, ho, _, hd⟩, _⟩ := st
    rcases (by simpa using hb : b = e ∨ b = it) with rfl | rfl
    · exact ⟨_, he, fun v q => nomatch q⟩
    · exact ⟨o, ho, fun v q => by rw [hd] at q; cases q⟩
  keep := fun i h g st k => let ⟨⟨old, he⟩, hi, ne⟩ := st; ⟨⟨old, k e (by simp) _ he⟩, hi.at fun o q => k it (by simp) o q, ne⟩
  item := by
    intro X hP hw hK hc i pins s σ H E I hf st hg
    subst hP hw hK
    obtain ⟨⟨old, he⟩, hit, ne⟩ := st
    obtain ⟨l, y, hq, hy⟩ := hg
    obtain ⟨its, rv, p, hz⟩ := I.tuple hq
    obtain ⟨u, hu, ru⟩ := rv.get hy
    have pt : s.heap.IsTuple a its.toArray := p
    have ll := rv.length
    have e_lt : e < s.heap.objs.size := Heap.lt_size he
    have i_lt : it < s.heap.objs.size := by
      obtain ⟨_, q, _⟩ := hit
      exact Heap.lt_size q
    have ai : a ≠ it := fun z => by
      obtain ⟨o1, h1, c1, _⟩ := hit
      obtain ⟨o2, h2, c2, _⟩ := pt
      rw [z, h1] at h2
      cases h2
      rw [c1] at c2
      exact absurd c2 (by decide)
    have ae : e ∉ [it, a] := by
      intro hm
      rcases (by simpa using hm : e = it ∨ e = a) with z | z
      · exact ne z
      · subst z
        obtain ⟨o2, h2, c2, _⟩ := pt
        rw [he] at h2
        cases h2
        have c3 : Value.type "enumerate" = Value.type "tuple" := c2
        injection c3 with c4
        exact absurd c4 (by decide)
    have i_lt2 : i < its.toArray.size := by
      have h1 : i < l.length := (List.getElem?_eq_some_iff.mp hy).1
      simp
      omega
    refine wpAny_pyNext_enum_itemD (Draws.tuple (prog := X.prog) (w := X.w) (A := X.A.in1) (show X.A.in1.handled = none from I.ok.hd hc) it a ai its.toArray) he ⟨hit, pt⟩ i_lt2 ne ae fun x g tk hP ho hst hT hsz hk => ?_
    have ex : x = u := by
      have h2 : its.toArray[i]? = some u := by simpa using hu
      rw [h2] at hP
      exact (Option.some.inj hP).symm
    subst ex
    refine ⟨_, rfl, wpAny_letOwnedTupleGo_enum (s := { s with heap := g, toks := tk + 1 }) ho fun g2 he2 sb => ?_⟩
    have hT2 : g2.get? s.heap.objs.size = some { cls := .type "tuple", data := .seq #[.int i tk, x] } := (sb.2 _ (Nat.ne_of_gt e_lt)).trans hT
    have nw : ObjOk X.prog X.w (upd H s.heap.objs.size (.tup [.int (i : Nat), y])) g2 s.heap.objs.size (.tup [.int (i : Nat), y]) :=
      ⟨by show 2 ≤ sizeLine; decide, [.int i tk, x], .cons ⟨_, rfl⟩ (.cons ru .nil), ⟨_, hT2, rfl, _, rfl⟩⟩
    have J : Inv X pins σ (upd H s.heap.objs.size (.tup [.int (i : Nat), y])) { s with heap := g2, toks := tk + 1 } :=
      I.turnedNew (ch := [e, it]) (fun b ob hb q => (sb.2 b (fun z => hb (by simp [z]))).trans (hk b ob (fun z => hb (by simp [z])) (fun z => hb (by simp [z])) q)) hf (Nat.le_refl _) nw
    refine ⟨.ref s.heap.objs.size, _, J, rfl, ⟨_, y, rfl, I.hok.fresh (Nat.le_refl _), rfl, fun m hm => by rw [I.tuple_inj hm hq]; exact hy⟩, ⟨⟨x, ?_⟩, hst.1.at fun o q => (sb.2 it (Ne.symm ne)).trans q, ne⟩, fun b hb => ?_⟩
    · rw [show ((i + 1 : Nat) : Int) = (i : Int) + 1 from by omega]
      exact he2
    · have b_lt : b < s.heap.objs.size := by
        rcases (by simpa using hb : b = e ∨ b = it) with z | z
        · rw [z]; exact e_lt
        · rw [z]; exact i_lt
      rw [upd_ne (Nat.ne_of_lt b_lt)]
      exact (hf b hb).1
  done := by
    intro X hP hw hK hc i pins s σ H E I hf st hg
    subst hP hw hK
    obtain ⟨⟨old, he⟩, hit, ne⟩ := st
    obtain ⟨l, hq, hl⟩ := hg
    obtain ⟨its, rv, p, hz⟩ := I.tuple hq
    have pt : s.heap.IsTuple a its.toArray := p
    obtain ⟨f0, f1, f2, f3, f4, f5⟩ := hf it (by simp)
    have ll := rv.length
    have hx : its.toArray[i]? = none := by simp; omega
    have hT : s.TypeIs (.ref e) "enumerate" := ⟨_, he, rfl⟩
    unfold pyNext
    refine wpAny_bind (wpAny_attempt (wpAny_callSpecial?_slot (name := Str.ofString "__next__") hT F.slot_enumerate_next
      (wpAny_call_entry F.slot_enumerate_next hT F.entry_enumerate_next ?_ (F.args_enumerate_next_1 _))))
    show wpAny _ _ (field (.ref e) 2 >>= _) _ _ _
    refine wpAny_bind (wpAny_field he rfl (x := .ref it) rfl ?_)
    refine wpAny_bind (wpAny_nextOf_tuple_end (I.ok.hd hc) hit pt hx fun g x eb hx' => ?_)
    obtain ⟨o, ho, hcl⟩ := hx'
    refine wpAny_bind (wpAny_isInstance (T := "StopIteration") (b := true) ⟨o, ho, hcl⟩ isSubtype_stop ?_)
    exact wpAny_pure ⟨rfl, I.turned (t' := s.toks) (fun b o hb q => eb b o hb q) f0 f1 f3 f4 f5⟩
  self := fun A i s Q E st h => let ⟨⟨_, he⟩, _⟩ := st; wpAny_pyIter_enum he h
theorem walk_enT {K : PySem.W.Frag} {a : Addr} {xs : List V} : Walk (Itet K a) xs.length (fun H => SqT K H a xs) (YPair (fun i => some (.int (i : Nat))) (fun i => xs[i]?)) := by
  refine ⟨fun i _ hi q => ⟨xs, xs[i], q, by simp [hi]⟩, fun _ q => ⟨xs, q, Nat.le_refl _⟩, fun i H v G _ q y => ?_⟩
  obtain ⟨c, x, h1, h2, h3, h4⟩ := y
  exact ⟨c, .int (i : Nat), x, h1, h2, h3, rfl, h4 xs q⟩
def iEnA (K : PySem.W.Frag) (ta : TA) : TI := fun σ H R => ta σ H fun vs G => ∃ a l, vs = [.ref a] ∧ ((SqL K G a l ∧ R (Ite K a) G) ∨ (SqT K G a l ∧ R (Itet K a) G))
theorem pi_enA {X : Cx} {e : Expr} {ta : TA} {p pos tpos : Pos} {elts : List Expr} {kk : Nat} (hg : Gl X "enumerate") (hm : X.mg "enumerate" = none) (ha : PA X [e] ta) (hs : starEach [e] X.env = [(false, eval e X.env)] := by rfl) :
    PI X (.Tuple elts kk tpos) (.Call (.Name "enumerate" p) [e] [] pos) (iEnA X.K ta) := by
  refine ⟨fun pins s σ H R I h => ?_⟩
  refine Call_ (ld_blt I hg hm boot_enumerate (PyProof.Rows.callWith_type1 (thn (ha.run pos pins s σ H _ I h) fun us s1 ⟨vs, G, J, r1, q1⟩ => ?_) hs rfl))
  obtain ⟨a, l, ex, q1⟩ := q1
  subst ex
  cases r1 with
  | cons r rr =>
    cases rr
    cases r
    have fin : ∀ (g : Heap) (JJ : Inv X pins σ G { s1 with heap := g }), ∀ b ∈ [s1.heap.objs.size + 1, s1.heap.objs.size], s1.heap.objs.size ≤ b := by
      intro g JJ b hb
      rcases (by simpa using hb : b = s1.heap.objs.size + 1 ∨ b = s1.heap.objs.size) with z | z <;> omega
    rcases q1 with ⟨hq, q⟩ | ⟨hq, q⟩
    · obtain ⟨its, rv, p', hz⟩ := J.list hq
      refine call_enumerate_list p'.isList fun g he hit hsz hk => wpAny_pyIter_enum he ?_
      have J2 : Inv X pins σ G { s1 with heap := g } := J.kept (t' := s1.toks) hk
      refine ⟨s1.heap.objs.size + 1, [s1.heap.objs.size + 1, s1.heap.objs.size], _, _, G, rfl, J2, turn_enum a (s1.heap.objs.size + 1) s1.heap.objs.size, ⟨⟨.none, he⟩, hit, Nat.succ_ne_self _⟩, fun b hb => ?_, q⟩
      have hle := fin g J2 b hb
      exact J.fpOk hle (J.hok.fresh hle)
    · obtain ⟨its, rv, p', hz⟩ := J.tuple hq
      have pt : s1.heap.IsTuple a its.toArray := p'
      refine call_en1 (begins_tuple a its.toArray) pt fun g he hit hsz hk => wpAny_pyIter_enum he ?_
      have J2 : Inv X pins σ G { s1 with heap := g } := J.kept (t' := s1.toks) hk
      refine ⟨s1.heap.objs.size + 1, [s1.heap.objs.size + 1, s1.heap.objs.size], _, _, G, rfl, J2, turn_enT a (s1.heap.objs.size + 1) s1.heap.objs.size, ⟨⟨.none, he⟩, ⟨_, hit, rfl, rfl⟩, Nat.succ_ne_self _⟩, fun b hb => ?_, q⟩
      have hle := fin g J2 b hb
      exact J.fpOk hle (J.hok.fresh hle)
end Ow

/-! rules that name K for comprehensions; pairs of texts as they stand; the last one of equal pairs -/
namespace Ow
open PySem PySem.Spec PyProof.Rows L2
theorem _root_.L2.Room.units65 {k : Nat} {A : Around} (r : Room k A) : A.units + 65 < cLine := by
  have := r.un
  omega
section
variable {X : Cx}
theorem slA (K : PySem.W.Frag) (hK : X.K = K := by rfl) : SlR X (fun x lo hi H Q => rSlL K x lo hi H Q ∨ rSlT K x lo hi H Q) := by
  subst hK
  exact sl_list.or sl_tup
theorem slTK (K : PySem.W.Frag) (hK : X.K = K := by rfl) : SlR X (rSlT K) := by
  subst hK
  exact sl_tup
theorem op_notInAK (K : PySem.W.Frag) (hu : X.A.units + 65 < cLine) (hK : X.K = K := by rfl) : OpR X (compareOp .NotIn) (fun x y H Q => rNotInD K x y H Q ∨ rInT K true x y H Q) := by
  subst hK
  exact (op_notInD hu).or (op_notInT hu)
theorem op_inAK (K : PySem.W.Frag) (hu : X.A.units + 65 < cLine) (hK : X.K = K := by rfl) : OpR X (compareOp .In) (fun x y H Q => rInD K x y H Q ∨ rInT K false x y H Q) := by
  subst hK
  exact (op_inD hu).or (op_inT hu)
theorem pg_tupK (K : PySem.W.Frag) {pos : Pos} {es : List Expr} {k : Nat} {t : TGs} {n : Nat} (h : PGs X es t) (hc : X.calm = true := by rfl)
    (hn : (assignEach es X.env).length = n := by rfl) (hst : (assignEach es X.env).findIdx? (·.1) = none := by rfl) (hK : X.K = K := by rfl) : PG X (.Tuple es k pos) (gTup K n t) := by
  subst hK
  exact pg_tup hc h hn hst
end
/-- a pair of texts where it stands -/
abbrev Pl := Addr × Str × Str
def plV (r : Pl) : V := .ref r.1
structure PlAt (H : Hp) (r : Pl) : Prop where
  at_ : H r.1 = some (.tup [.str r.2.1, .str r.2.2])
  o1 : PyData.strOk r.2.1 = true
  o2 : PyData.strOk r.2.2 = true
theorem PlAt.same {H H' : Hp} {r : Pl} (h : PlAt H r) (s : Same H H') : PlAt H' r := ⟨s _ _ h.at_, h.o1, h.o2⟩
def plsD (rs : List Pl) : List PyData := (rs.map (·.2)).map pD
theorem PlAt.dp {K : PySem.W.Frag} {H : Hp} {r : Pl} (h : PlAt H r) : Dp K H (plV r) (pD r.2) := Dp.tup (SqT.of h.at_) (.cons (.str _) (.cons (.str _) .nil))
theorem pls_dp {K : PySem.W.Frag} {H : Hp} : ∀ {rs : List Pl}, (∀ r ∈ rs, PlAt H r) → DpAll K H (rs.map plV) (plsD rs)
  | [], _ => .nil
  | r :: rs, h => .cons (h r List.mem_cons_self).dp (pls_dp fun z hz => h z (List.mem_cons_of_mem _ hz))
theorem pls_lay {rs : List Pl} {H : Hp} (h : ∀ r ∈ rs, PlAt H r) : PyData.canLayAll0 (plsD rs) = true ∧ PyData.depthAll (plsD rs) ≤ 1 := by
  induction rs with
  | nil => exact ⟨rfl, by decide⟩
  | cons e es ih =>
    obtain ⟨z1, z2⟩ := ih fun p hp => h p (List.mem_cons_of_mem _ hp)
    have y1 := (h e List.mem_cons_self).o1
    have y2 := (h e List.mem_cons_self).o2
    refine ⟨?_, ?_⟩
    · show PyData.canLayAll0 (pD e.2 :: plsD es) = true
      simp [PyData.canLayAll0, z1, pD, PyData.canLay0, y1, y2]
    · show PyData.depthAll (pD e.2 :: plsD es) ≤ 1
      simp [PyData.depthAll, pD, PyData.depth]
      omega
theorem pls_shT {rs : List Pl} {H : Hp} (h : ∀ r ∈ rs, PlAt H r) : SeqAt.shaped (.tuple (plsD rs)) = true := by
  obtain ⟨z1, z2⟩ := pls_lay h
  have d : PyData.depthAll (plsD rs) + 1 ≤ 64 := by omega
  simp [SeqAt.shaped, PyData.canLay0, PyData.depth, z1, d]
theorem pls_shL {rs : List Pl} {H : Hp} (h : ∀ r ∈ rs, PlAt H r) : SeqAt.shaped (.list (plsD rs)) = true := by
  obtain ⟨z1, z2⟩ := pls_lay h
  have d : PyData.depthAll (plsD rs) + 1 ≤ 64 := by omega
  simp [SeqAt.shaped, PyData.canLay0, PyData.depth, z1, d]
theorem pls_sh1 {r : Pl} {H : Hp} (h : PlAt H r) : SeqAt.shaped (pD r.2) = true := pD_shaped h.o1 h.o2
def hasP (rs : List Pl) (q : Str × Str) : Bool := rs.any fun z => decide (z.2 = q)
theorem plsD_any (rs : List Pl) (q : Str × Str) : ((plsD rs).any fun z => PyData.eqv z (pD q)) = hasP rs q := by
  induction rs with
  | nil => rfl
  | cons e es ih =>
    show (PyData.eqv (pD e.2) (pD q) || (plsD es).any fun z => PyData.eqv z (pD q)) = (decide (e.2 = q) || hasP es q)
    rw [ih, pD_eqv]
/-- the pairs that do not come again -/
def lastOf : List Pl → List Pl
  | [] => []
  | r :: rs => if hasP rs r.2 then lastOf rs else r :: lastOf rs
theorem lastOf_mem : ∀ {rs : List Pl} {r : Pl}, r ∈ lastOf rs → r ∈ rs
  | [], _, h => h
  | e :: es, r, h => by
    unfold lastOf at h
    split at h
    · exact List.mem_cons_of_mem _ (lastOf_mem h)
    · rcases List.mem_cons.mp h with rfl | h
      · exact List.mem_cons_self
      · exact List.mem_cons_of_mem _ (lastOf_mem h)
theorem lastOf_len : ∀ rs : List Pl, (lastOf rs).length ≤ rs.length
  | [] => Nat.le_refl _
  | e :: es => by
    have := lastOf_len es
    unfold lastOf
    split
    · exact Nat.le_succ_of_le this
    · simpa using this
theorem lastOf_has : ∀ (rs : List Pl) (q : Str × Str), hasP (lastOf rs) q = hasP rs q
  | [], _ => rfl
  | e :: es, q => by
    have ih := lastOf_has es q
    unfold lastOf
    show _ = (decide (e.2 = q) || hasP es q)
    split
    · rename_i h
      rw [ih]
      by_cases c : e.2 = q
      · rw [← c, h]
        simp
      · simp [c]
    · show (decide (e.2 = q) || hasP (lastOf es) q) = _
      rw [ih]
theorem lastOf_twice : ∀ rs : List Pl, lastOf (lastOf rs) = lastOf rs
  | [] => rfl
  | e :: es => by
    have ih := lastOf_twice es
    by_cases c : hasP es e.2 = true
    · have z : lastOf (e :: es) = lastOf es := by
        show (if hasP es e.2 then _ else _) = _
        rw [c]
        rfl
      rw [z, ih]
    · have c' : hasP es e.2 = false := by simpa using c
      have z : lastOf (e :: es) = e :: lastOf es := by
        show (if hasP es e.2 then _ else _) = _
        rw [c']
        rfl
      rw [z]
      show (if hasP (lastOf es) e.2 then _ else _) = _
      rw [lastOf_has, c', ih]
      rfl
theorem cut_from {xs : List V} {i : Nat} {k : Int} (hk : k = ((i + 1 : Nat) : Int)) : cutV xs (some k) none = xs.drop (i + 1) := by
  subst hk
  unfold cutV
  rw [HT.sIx_nat, HT.sIx_none]
  by_cases h : i + 1 ≤ xs.length
  · rw [Nat.min_eq_left h, List.take_of_length_le (by rw [List.length_drop]; omega)]
  · rw [Nat.min_eq_right (by omega), List.drop_of_length_le (Nat.le_refl _), List.drop_of_length_le (by omega)]
    simp
theorem not_whole {xs : List V} {i : Nat} {k : Int} (hk : k = ((i + 1 : Nat) : Int)) (hi : i < xs.length) : ¬ (HT.sIx xs.length 0 (some k) = 0 ∧ HT.sIx xs.length xs.length none = xs.length) := by
  subst hk
  rw [HT.sIx_nat]
  rintro ⟨h, _⟩
  rw [Nat.min_eq_left (by omega)] at h
  cases h
theorem eqvAll_refl : ∀ rs : List Pl, PyData.eqvAll (plsD rs) (plsD rs) = true
  | [] => rfl
  | e :: es => by
    show (PyData.eqv (pD e.2) (pD e.2) && PyData.eqvAll (plsD es) (plsD es)) = true
    rw [eqvAll_refl es, pD_eqv]
    simp
end Ow

/-! the names that the laws draw: texts as lists of code points; str * int -/
namespace Tg
open PySem L2
section
variable {X : Cx}
/-- a text times an int -/
theorem op_mulStr : OpR X (binaryOp .Mult) (fun x y H Q => ∃ (z : Str) (k : Int), x = .str z ∧ y = .int k ∧ MulOk z k ∧ Q (.str (Txt.mul z k)) H) := by
  intro pins s σ H x y v u Q I rx ry h
  obtain ⟨z, k, rfl, rfl, hk, q⟩ := h
  obtain ⟨t, rfl⟩ := rx
  obtain ⟨t', rfl⟩ := ry
  exact SB.mul hk fun t2 n => ⟨.str (Txt.mul z k), H, I.kept (t' := n) fun _ _ z => z, ⟨_, rfl⟩, q⟩
end
/-- a text by its code points -/
def sL (l : List Nat) : Str := ⟨l.toArray⟩
theorem sL_add (a b : List Nat) : sL a ++ sL b = sL (a ++ b) := by
  show Str.mk _ = _
  unfold sL
  congr 1
  exact List.append_toArray a b
theorem sL_len (a : List Nat) : (sL a).length = a.length := List.size_toArray
theorem sL_inj {a b : List Nat} (h : sL a = sL b) : a = b := by
  have := congrArg (fun s : Str => s.cps.toList) h
  simpa [sL] using this
theorem sL_cut (a : List Nat) (lo hi : Option Int) : cutS (sL a) lo hi = sL ((a.drop (HT.sIx a.length 0 lo)).take (HT.sIx a.length a.length hi - HT.sIx a.length 0 lo)) := by
  unfold cutS
  rw [sL_len]
  rfl
theorem sL_lo (a : List Nat) (k : Nat) (h : k ≤ a.length) : cutS (sL a) none (some (k : Int)) = sL (a.take k) := by
  rw [sL_cut, HT.sIx_nat, HT.sIx_none, List.drop_zero, Nat.sub_zero, Nat.min_eq_left h]
theorem sL_hi (a : List Nat) (k : Nat) (h : k ≤ a.length) : cutS (sL a) (some (k : Int)) none = sL (a.drop k) := by
  rw [sL_cut, HT.sIx_nat, HT.sIx_none, Nat.min_eq_left h, List.take_of_length_le (by rw [List.length_drop]; omega)]
theorem mul0 (a : List Nat) : Txt.mul (sL a) 0 = sL [] := rfl
theorem mul1 (a : List Nat) : Txt.mul (sL a) 1 = sL a := rfl
abbrev lettersT : Str := "abcdefghijklmnopqrstuvwxyz"
theorem letters_eq : lettersT = sL ((List.range 26).map (97 + ·)) := by decide +kernel
theorem letter_at (k : Nat) (h : k < 26) : atI lettersT.cps.toList (k : Int) = some (97 + k) := by
  rw [letters_eq]
  refine atI_nat ?_
  show ((List.range 26).map (97 + ·)).toArray.toList[k]? = some (97 + k)
  simp [h]
/-! ### names -/
def isNm (l : List Nat) : Bool := decide (1 ≤ l.length) && decide (l.length ≤ 6) && l.all fun c => decide (97 ≤ c) && decide (c ≤ 122)
structure Nms (ns : List (List Nat)) (m : Nat) : Prop where
  len : ns.length = m
  nd : ns.Nodup
  ok : ∀ n ∈ ns, isNm n = true
theorem Nms.perm {ns ms : List (List Nat)} {m : Nat} (h : Nms ns m) (p : List.Perm ms ns) : Nms ms m := ⟨p.length_eq.trans h.len, p.nodup_iff.mpr h.nd, fun n hn => h.ok n (p.mem_iff.mp hn)⟩
theorem nms_take {ns : List (List Nat)} {m : Nat} (nd : ns.Nodup) (ok : ∀ n ∈ ns, isNm n = true) (h : m ≤ ns.length) : Nms (ns.take m) m :=
  ⟨by rw [List.length_take]; omega, nd.sublist (List.take_sublist m ns), fun n hn => ok n (List.mem_of_mem_take hn)⟩
theorem nodup_map {f : Nat → List Nat} {m : Nat} (h : ∀ i j, i < m → j < m → f i = f j → i = j) : ((List.range m).map f).Nodup := by
  refine List.pairwise_map.mpr ?_
  refine List.Pairwise.imp_of_mem (R := fun i j => i ≠ j) (fun {i j} hi hj ne e => ?_) (List.nodup_range)
  exact ne (h i j (List.mem_range.mp hi) (List.mem_range.mp hj) e)
/-- stem[:at] + letter + stem[at:] -/
def ltr (first k : Nat) : List Nat := (97 + (first + 7 * k) % 26) :: (if 25 < k then [97 + k / 26] else [])
def fnd (stem : List Nat) (at_ first k : Nat) : List Nat := (stem.take at_ ++ ltr first k) ++ stem.drop at_
theorem ltr_len (first k : Nat) : (ltr first k).length = if 25 < k then 2 else 1 := by
  unfold ltr
  split <;> rfl
theorem fnd_inj {stem : List Nat} {at_ first i j : Nat} (hi : i < 40) (hj : j < 40) (h : fnd stem at_ first i = fnd stem at_ first j) : i = j := by
  unfold fnd at h
  have hl := congrArg List.length h
  simp only [List.length_append, ltr_len] at hl
  have same : (25 < i) ↔ (25 < j) := by
    by_cases a : 25 < i <;> by_cases b : 25 < j <;> simp [a, b] at hl ⊢ <;> omega
  rw [List.append_assoc, List.append_assoc] at h
  have h2 := List.append_cancel_left h
  have hd := congrArg List.head? h2
  simp only [ltr, List.cons_append, List.head?_cons, Option.some.injEq] at hd
  by_cases a : 25 < i
  · have b := same.mp a
    omega
  · have b : ¬ 25 < j := fun z => a (same.mpr z)
    omega
theorem all_app (p : Nat → Bool) (a b : List Nat) : (a ++ b).all p = (a.all p && b.all p) := List.all_append
theorem fnd_ok {stem : List Nat} {at_ first k : Nat} (hs : stem.length ≤ 4) (ha : stem.all (fun c => decide (97 ≤ c) && decide (c ≤ 122)) = true) (hk : k < 40) : isNm (fnd stem at_ first k) = true := by
  have e : (fnd stem at_ first k).length = stem.length + (ltr first k).length := by
    unfold fnd
    have := List.length_append (as := stem.take at_) (bs := stem.drop at_)
    rw [List.take_append_drop] at this
    rw [List.length_append, List.length_append]
    omega
  have e2 := ltr_len first k
  have all1 : (fnd stem at_ first k).all (fun c => decide (97 ≤ c) && decide (c ≤ 122)) = true := by
    have split : (stem.take at_ ++ stem.drop at_).all (fun c => decide (97 ≤ c) && decide (c ≤ 122)) = true := by rw [List.take_append_drop]; exact ha
    rw [all_app] at split
    obtain ⟨s1, s2⟩ := Bool.and_eq_true_iff.mp split
    unfold fnd
    rw [all_app, all_app, s1, s2]
    have z : (first + 7 * k) % 26 < 26 := Nat.mod_lt _ (by decide)
    have z2 : k / 26 ≤ 1 := by omega
    unfold ltr
    split <;> simp <;> omega
  unfold isNm
  rw [all1]
  have l1 : 1 ≤ (fnd stem at_ first k).length := by split at e2 <;> omega
  have l2 : (fnd stem at_ first k).length ≤ 6 := by split at e2 <;> omega
  simp [l1, l2]
theorem fnd_nms {stem : List Nat} {at_ first m : Nat} (hs : stem.length ≤ 4) (ha : stem.all (fun c => decide (97 ≤ c) && decide (c ≤ 122)) = true) (hm : m ≤ 40) : Nms ((List.range m).map (fnd stem at_ first)) m :=
  ⟨by simp, nodup_map fun i j hi hj e => fnd_inj (by omega) (by omega) e, fun n hn => by
    obtain ⟨k, hk, rfl⟩ := List.mem_map.mp hn
    exact fnd_ok hs ha (by have := List.mem_range.mp hk; omega)⟩
/-- 'a', 'b', 'aa', 'ab', .. -/
def pairsL : Nat → List (List Nat)
  | 0 => [[97], [98]]
  | k + 1 => pairsL k ++ [(pairsL k).getD k [] ++ [97], (pairsL k).getD k [] ++ [98]]
theorem pairs_len : ∀ k, (pairsL k).length = 2 + 2 * k
  | 0 => rfl
  | k + 1 => by
    show (pairsL k ++ [_, _]).length = _
    rw [List.length_append, pairs_len k]
    show 2 + 2 * k + 2 = _
    omega
theorem pairs_nms : ∀ m, m ≤ 40 → Nms ((pairsL m).take m) m := fun m hm => by
  have z : ∀ i : Fin 41, ((pairsL i).take i).Nodup ∧ (((pairsL i).take i).all isNm) = true := by decide +kernel
  obtain ⟨h1, h2⟩ := z ⟨m, by omega⟩
  exact ⟨by rw [List.length_take, pairs_len]; omega, h1, fun n hn => List.all_eq_true.mp h2 n hn⟩
/-- long + a letter -/
def endL (long : List Nat) (first k : Nat) : List Nat := long ++ [97 + (first + 7 * k) % 26]
theorem ends_nms {long : List Nat} {first m : Nat} (hs : long.length = 5) (ha : long.all (fun c => decide (97 ≤ c) && decide (c ≤ 122)) = true) (hm : m ≤ 26) : Nms ((List.range m).map (endL long first)) m :=
  ⟨by simp, nodup_map fun i j hi hj e => by
    have h2 := List.append_cancel_left e
    simp only [List.cons.injEq, and_true] at h2
    omega, fun n hn => by
    obtain ⟨k, hk, rfl⟩ := List.mem_map.mp hn
    have z : (first + 7 * k) % 26 < 26 := Nat.mod_lt _ (by decide)
    unfold isNm endL
    rw [all_app, ha]
    simp [hs]
    omega⟩
abbrev wordsT : Str := "places edge rope party pull row undo show reach haul rest free nobody still length a"
def wordsL : List (List Nat) := (Txt.split wordsT " ").map fun s => s.cps.toList
theorem words_eq : Txt.split wordsT " " = wordsL.map sL := by
  unfold wordsL
  rw [List.map_map]
  have : ((fun l => sL l) ∘ fun s : Str => s.cps.toList) = id := by
    funext s
    simp [sL]
  show _ = List.map ((fun l => sL l) ∘ fun s : Str => s.cps.toList) _
  rw [this, List.map_id]
theorem words_nms : Nms wordsL 16 := ⟨by decide +kernel, by decide +kernel, by decide +kernel⟩
/-- the words that are not found, then those found -/
theorem odd_nms {ws fs : List (List Nat)} {m : Nat} (hw : Nms ws 16) (hf : Nms fs m) : Nms ((ws.filter (fun w => !fs.contains w) ++ fs).take m) m := by
  refine nms_take ?_ ?_ (by rw [List.length_append, hf.len]; omega)
  · refine List.nodup_append.mpr ⟨hw.nd.sublist List.filter_sublist, hf.nd, fun a ha b hb e => ?_⟩
    subst e
    have := (List.mem_filter.mp ha).2
    simp at this
    exact this hb
  · intro n hn
    rcases List.mem_append.mp hn with h | h
    · exact hw.ok n (List.mem_filter.mp h).1
    · exact hf.ok n h
end Tg

namespace Tg
open PySem L2 Ow
def top (i : Nat) : Stmt := PySem.Challenge.pw_towgrove_k34_rows_shortened.main.body.getD i (.Pass ⟨0, 0, 0, 0⟩)
abbrev sBox : Stmt := top 3
abbrev sTake : Stmt := top 4
abbrev sMixed : Stmt := top 5
abbrev sNames : Stmt := top 6
abbrev sLaw : Stmt := top 8
abbrev sEned_ : Stmt := top 1
abbrev sDue_ : Stmt := top 7
structure TxtB (mg : Str → Option Value) : Prop where
  abs : mg "abs" = none
  len : mg "len" = none
section
variable {P : Program} {w : World} {K : PySem.W.Frag} {mg : Str → Option Value} {base : Heap}
theorem scTake : FnScope ["_law_box_here", "_law_many", "_law_digit", "_law_one"] ["_law_box_here", "_law_many"] (defScope sTake) := ⟨rfl, rfl, rfl, by decide +kernel, rfl, by decide +kernel, by decide +kernel⟩
theorem ok_take {f : Addr} {fd : FuncData} (F : Fun K "_law_take" "_law_take" sTake f fd) (T : TxtB mg) : FnOk P w K mg base CX0 1 f fd ["_law_box_here", "_law_many"] spTake := by
  refine F.ok scTake (fun vs H Q E h => ?_) (fun cdv A outer s H vs Q E hr h => ?_)
  · obtain ⟨b, L, m, rfl, _⟩ := h
    rfl
  · obtain ⟨b, L, m, rfl, m0, m9, ⟨gs, now, seed, turn, B⟩, k⟩ := h
    have hu := hu_of hr
    have nd := scTake.nd
    refine ⟨_, pss_cons (ps_if (PW.pt (pw_and (pt_cmpR op_eq (pe_dget hu (pv 0) pe_str (fun _ _ => rfl)) pe_int (nomark _)) (pw_and1 (pt_cmpR op_gt (pe_callB call_len_seq (by rfl) T.len PySem.boot_len (pa_cons (pe_dget hu (pv 0) pe_str (fun _ _ => rfl)) pa_nil)) pe_int (nomark _)))))
        (pss_one (ps_dput hu (pv 0) pe_str (pe_bm0 PySem.F.plainAttrs_list PySem.F.slot_list_pop PySem.F.type_list_pop mt_pop (pe_dget hu (pv 0) pe_str (fun _ _ => rfl))) rfl)) pss_nil)
      (pss_cons (ps_if (pt_cmpR op_gt (pe_dget hu (pv 0) pe_str (fun _ _ => rfl)) pe_int (nomark _))
        (pss_cons (ps_set (i := 2) nd rfl (.inl rfl) (pe_op op_mod (pe_dget hu (pv 0) pe_str (fun _ _ => rfl)) (pv 1)))
        (pss_cons (ps_dput hu (pv 0) pe_str (pe_op op_fdivW (pe_dget hu (pv 0) pe_str (fun _ _ => rfl)) (pv 1)) rfl)
        (pss_one (ps_ret (pv 2))))) pss_nil)
      (pss_cons (ps_dput hu (pv 0) pe_str (pe_op op_add (pe_dget hu (pv 0) pe_str (fun _ _ => rfl)) pe_int) rfl)
      (pss_cons (ps_set (i := 3) nd rfl (.inl rfl) (pe_op op_mod (pe_op op_mul (pe_op op_mod (pe_op op_add (pe_dget hu (pv 0) pe_str (fun _ _ => rfl)) (pe_op op_mul pe_int (pe_dget hu (pv 0) pe_str (fun _ _ => rfl)))) pe_int) pe_int) pe_int))
      (pss_cons (ps_dput hu (pv 0) pe_str (pe_op op_add (pe_op op_mod (pe_op op_add (pv 3) (pe_op op_mul pe_int (pe_dget hu (pv 0) pe_str (fun _ _ => rfl)))) pe_int) pe_int) rfl)
      (pss_one (ps_ret (pe_op op_mod (pe_op op_fdiv (pe_op op_add (pe_op op_mul (pv 3) pe_int) (pe_dget hu (pv 0) pe_str (fun _ _ => rfl))) pe_int) (pv 1)))))))), ?_⟩
    refine seq_rest (fun σ1 H1 => σ1 = [some (.ref b), some (.int m), none, none] ∧ Kp b L H H1 ∧ ∃ gs now seed turn, BoxAt H1 b L gs now seed turn) ?_ (fun rest => ?_)
    · rintro σ1 H1 ⟨rfl, k1, gs, now, seed, turn, B⟩
      refine ⟨_, rfl, b, _, rfl, B.gnow, _, _, rfl, rfl, _, rfl, ?_⟩
      refine ite2 (fun hn => ?_) (fun hn => ?_)
      · have hn0 : 0 < now := of_decide_eq_true hn
        refine ⟨_, rfl, b, _, rfl, B.gnow, _, rfl, _, _, rfl, rfl, m0, ?_⟩
        refine ⟨_, rfl, b, _, rfl, B.gnow, _, rfl, _, _, rfl, rfl, ⟨m0, m9⟩, _, rfl, b, _, rfl, B.pnow _, ?_⟩
        obtain ⟨B2, k2⟩ := B.put (turn' := turn) (Int.ediv_nonneg B.now0 (Int.le_of_lt m0)) B.seed0 B.seed1
        refine ⟨_, rfl, ?_⟩
        exact k _ _ (Int.emod_nonneg _ (by omega)) (Int.emod_lt_of_pos _ m0) ⟨_, _, _, _, B2⟩ (k1.trans k2)
      · refine ⟨_, rfl, b, _, rfl, B.gturn, _, _, rfl, rfl, _, rfl, b, _, rfl, B.pturn _, ?_⟩
        obtain ⟨B2, k2⟩ := B.put (turn' := turn + 1) B.now0 B.seed0 B.seed1
        have c1 := B.seed0
        have c2 := B.seed1
        refine ⟨_, rfl, b, _, rfl, B2.gseed, _, rfl, b, _, rfl, B2.gturn, _, _, rfl, rfl, .inl (by omega), _, _, rfl, rfl, _, _, rfl, rfl, pos_lit (by decide), _, _, rfl, rfl, .inr (by omega), _, _, rfl, rfl, pos_lit (by decide), ?_⟩
        generalize (seed + 69623 * (turn + 1)) % 2147483647 * 16807 = z0
        refine ⟨_, rfl, _, rfl, b, _, rfl, B2.gseed, _, _, rfl, rfl, .inl (by omega), _, _, rfl, rfl, _, _, rfl, rfl, pos_lit (by decide), _, _, rfl, rfl, _, rfl, b, _, rfl, B2.pseed _, ?_⟩
        obtain ⟨B3, k3⟩ := B2.put (now' := now) (turn' := turn + 1) (seed' := (z0 % 2147483647 + 3 * seed) % 2147483629 + 1) B.now0 (by omega) (by omega)
        refine ⟨_, rfl, _, _, rfl, rfl, .inr (by omega), _, rfl, b, _, rfl, B3.gseed, _, _, rfl, rfl, _, _, rfl, rfl, ⟨by decide, by decide⟩, _, rfl, _, _, rfl, rfl, m0, ?_⟩
        exact k _ _ (Int.emod_nonneg _ (by omega)) (Int.emod_lt_of_pos _ m0) ⟨_, _, _, _, B3⟩ ((k1.trans k2).trans k3)
    · refine ⟨_, rfl, b, _, rfl, B.gnow, rfl, _, rfl, ?_⟩
      refine ite2 (fun hn => ?_) (fun hn => ?_)
      · refine ⟨_, rfl, b, _, rfl, B.ggreat, _, _, rfl, .inl (SqL.of B.ls), _, _, rfl, rfl, _, rfl, ?_⟩
        refine ite2 (fun hg => ?_) (fun hg => ?_)
        · have hg0 : 0 < (gs.map V.int).length := by
            have := of_decide_eq_true hg
            omega
          have hlast : (gs.map V.int)[(gs.map V.int).length - 1]? = some (V.int (gs.getLast (by intro e; simp [e] at hg0))) := by
            simp [List.getLast_eq_getElem]
          obtain ⟨B2, k2⟩ := B.pop
          refine ⟨_, rfl, b, _, rfl, B.ggreat, .inl ⟨rfl, _, SqL.of B.ls⟩, L, _, _, rfl, rfl, B.ls, hlast, _, rfl, b, _, rfl, B2.pnow _, ?_⟩
          obtain ⟨B3, k3⟩ := B2.put (turn' := turn) (B.pos _ (List.getLast_mem _)) B.seed0 B.seed1
          exact rest _ _ ⟨rfl, k2.trans k3, _, _, _, _, B3⟩
        · exact rest _ _ ⟨rfl, Kp.refl _ _ _, _, _, _, _, B⟩
      · refine iteF ?_
        exact rest _ _ ⟨rfl, Kp.refl _ _ _, _, _, _, _, B⟩
theorem scBox : FnScope ["_law_script", "_law_base", "_law_seed", "_law_cell", "_law_great"] ["_law_script", "_law_base"] (defScope sBox) := ⟨rfl, rfl, rfl, by decide +kernel, rfl, by decide +kernel, by decide +kernel⟩
theorem ok_box {f : Addr} {fd : FuncData} (F : Fun K "_law_box" "_law_box" sBox f fd) (T : TxtB mg) : FnOk P w K mg base CX0 1 f fd ["_law_script", "_law_base"] (spBox K) := by
  refine F.ok scBox (fun vs H Q E h => ?_) (fun cdv A outer s H vs Q E hr h => ?_)
  · obtain ⟨a, ns, e, rfl, _⟩ := h
    rfl
  · obtain ⟨a, ns, e, rfl, hS, hl, e0, e1, k⟩ := h
    have nd := scBox.nd
    refine ⟨_, pss_cons (ps_set (i := 2) nd rfl (.inl rfl) (pe_op op_add pe_int (pe_op op_mul pe_int (pv 1))))
      (pss_cons (ps_for PassesOwn.never rfl (pi_list (pe_slice sl_list (pv 0) po_none (po_some pe_int))) (pg_name (i := 3) nd rfl (.inl rfl))
        (pss_one (ps_set (i := 2) nd rfl (.inl rfl) (pe_op op_mod (pe_op op_add (pe_op op_add (pe_op op_mul (pv 2) pe_int) (pe_op op_mod (pe_callB call_abs (by rfl) T.abs (by decide +kernel) (pa_cons (pv 3) pa_nil)) pe_int)) pe_int) pe_int))))
      (pss_cons (ps_setLc (i := 4) (own := [("_law_cell", 3)]) (g := gName 3) rfl nd rfl rfl (sw_true rfl rfl rfl (by decide +kernel)) (pi_list (pe_slice sl_list (pv 0) (po_some (pv 1)) (po_some pe_int)))
        (blkOk_by (own := [("_law_cell", 3)]) (N := ["_law_script", "_law_base", "_law_seed", "_law_cell", "_law_great"]) (sc := defScope sBox) (by decide +kernel)) (fun _ _ _ _ _ => pg_name (i := 3) nd rfl (.inl rfl))
        (fun _ _ _ _ _ => pts_one (pt_cmpR op_ge (pe_callB call_abs (by rfl) T.abs (by decide +kernel) (pa_cons (pv 3) pa_nil)) (pe_op op_pow pe_int pe_int) (nomark _)))
        (fun _ _ _ _ _ => pe_callB call_abs (by rfl) T.abs (by decide +kernel) (pa_cons (pv 3) pa_nil)))
      (pss_one (ps_ret (pe_disp (pps_cons pe_str (pe_revL (pv 4)) (pps_cons pe_str pe_int (pps_cons pe_str (pe_op op_add (pv 2) pe_int) (pps_cons pe_str pe_int pps_nil)))) (by rfl) (by rfl) (fun z => by cases z) (by decide)))))), ?_⟩
    refine ⟨_, rfl, _, _, rfl, rfl, .inl (by decide), _, _, rfl, rfl, ?_⟩
    refine ⟨_, rfl, _, rfl, a, _, rfl, hS, fun p hp => ?_⟩
    obtain ⟨ms, em, hm⟩ := cut_ints ns none (some 50)
    rw [em]
    refine ⟨p, rfl, ⟨_, SqL.of upd_same⟩, ?_⟩
    refine for_list (K := K) (a := p) (xs := ms.map V.int) (fun i σ H2 => ∃ (sd : Int) (c : Option V), σ = [some (.ref a), some (.int e), some (.int sd), c, none] ∧ Same (upd H p (.lst (ms.map V.int))) H2 ∧ 0 ≤ sd ∧ sd < 2147483648)
      ⟨_, none, rfl, Same.refl _, by omega, by omega⟩ (fun i σ H2 _ ⟨_, _, _, s2, _⟩ => SqL.of (s2 _ _ upd_same)) ?_ ?_
    · rintro i y σ H2 hi ⟨sd, c, rfl, s2, b0, b1⟩
      obtain ⟨z, hz, rfl⟩ := ints_at hi
      refine ⟨_, rfl, _, _, rfl, rfl, .inr (by decide), _, rfl, _, rfl, _, _, rfl, rfl, pos_lit (by decide), _, _, rfl, rfl, _, _, rfl, rfl, _, _, rfl, rfl, pos_lit (by decide), ?_⟩
      exact ⟨_, some (.int z), rfl, s2, Int.emod_nonneg _ (by decide), Int.lt_trans (Int.emod_lt_of_pos _ (by decide)) (by decide)⟩
    · rintro σ H2 ⟨sd, c, rfl, s2, b0, b1⟩
      have s3 : Same H H2 := (same_upd (Same.refl H) hp).trans s2
      refine ⟨_, rfl, _, rfl, _, rfl, _, rfl, a, _, rfl, s3.seq hS, fun p2 hp2 => ?_⟩
      obtain ⟨ms2, em2, hm2⟩ := cut_ints ns (some e) (some 50)
      rw [em2]
      refine ⟨p2, rfl, ⟨_, SqL.of upd_same⟩, fun D hD => ?_⟩
      have n2 : D ≠ p2 := fun z => by rw [z, upd_same] at hD; cases hD
      have hD2 : H2 D = none := by rw [upd_ne n2] at hD; exact hD
      refine lc_list (K := K) (a := p2) (xs := ms2.map V.int) (fun i H3 => ∃ gs : List Int, H3 D = some (.lst (gs.map V.int)) ∧ gs.length ≤ i ∧ (∀ g ∈ gs, 0 ≤ g) ∧ Same H H3 ∧ H3 p2 = some (.lst (ms2.map V.int)))
        ⟨[], upd_same, Nat.le_refl _, (fun g hg => nomatch hg), same_upd (same_upd s3 (s3.free hp2)) (s3.free hD2), by rw [upd_ne n2.symm, upd_same]⟩ (fun i H3 _ ⟨_, _, _, _, _, e3⟩ => SqL.of e3) ?_ ?_
      · rintro i y H3 hi ⟨gs, g1, g2, g3, g4, g5⟩
        obtain ⟨z, hz, rfl⟩ := ints_at hi
        have hi2 : i < ms2.length := (List.getElem?_eq_some_iff.mp hz).1
        refine ⟨rfl, _, rfl, _, rfl, _, _, rfl, rfl, ⟨by decide, by decide, by decide⟩, _, _, rfl, rfl, _, rfl, ?_⟩
        refine ite2 (fun hz0 => ?_) (fun hz0 => ?_)
        · refine ⟨_, rfl, _, rfl, _, g1, small1000 (by rw [List.length_map]; omega), gs ++ [if z < 0 then -z else z], ?_, ?_, ?_, same_upd g4 (s3.free hD2), ?_⟩
          · rw [upd_same, List.map_append]
            rfl
          · rw [List.length_append]
            exact Nat.succ_le_succ g2
          · intro g hg
            rcases List.mem_append.mp hg with h | h
            · exact g3 g h
            · have e := List.mem_singleton.mp h
              rw [e]
              split <;> omega
          · rw [upd_ne n2.symm]
            exact g5
        · exact ⟨gs, g1, Nat.le_succ_of_le g2, g3, g4, g5⟩
      · rintro H3 ⟨gs, g1, g2, g3, g4, g5⟩
        intro p3 hp3
        have n3 : D ≠ p3 := ne_of_none g1 hp3
        refine ⟨_, rfl, D, _, rfl, SqL.of (by rw [upd_ne n3]; exact g1), fun q hq => ?_⟩
        have n4 : q ≠ p3 := fun z => by rw [z, upd_same] at hq; cases hq
        have hq3 : H3 q = none := by rw [upd_ne n4] at hq; exact hq
        refine ⟨_, rfl, _, _, rfl, rfl, ?_⟩
        refine ⟨by rw [upd_ne n4.symm, upd_same], kvsB q 0 (sd + 1) 0, rfl, (by show 4 ≤ 15; decide), ?_⟩
        rw [merge_kvsB]
        refine k p3 q _ (g4.free hp3) (g4.free hq3) (same_upd (same_upd (same_upd g4 (g4.free hp3)) (g4.free hq3)) (g4.free hp3)) ⟨gs.reverse, 0, sd + 1, 0, upd_same, ?_, by omega, by omega, by omega, fun g hg => g3 g (List.mem_reverse.mp hg)⟩
        rw [upd_ne n4, upd_same, List.map_reverse]
end
theorem Kp.new {b L p : Addr} {H H' : Hp} {o : HO} (k : Kp b L H H') (n : H p = none) : Kp b L H (upd H' p o) := fun a u n1 n2 h => by
  rw [upd_ne (ne_of_none h n)]
  exact k a u n1 n2 h
theorem Box.new {b L p : Addr} {H : Hp} {o : HO} (B : Box b L H) (n : H p = none) : Box b L (upd H p o) := by
  obtain ⟨gs, now, seed, turn, B⟩ := B
  exact ⟨gs, now, seed, turn, by rw [upd_ne (ne_of_none B.dc n)]; exact B.dc, by rw [upd_ne (ne_of_none B.ls n)]; exact B.ls, B.now0, B.seed0, B.seed1, B.pos⟩
theorem Box.apart {b L p : Addr} {H : Hp} (B : Box b L H) (n : H p = none) : p ≠ b ∧ p ≠ L := by
  obtain ⟨gs, now, seed, turn, B⟩ := B
  exact ⟨(ne_of_none B.dc n).symm, (ne_of_none B.ls n).symm⟩
theorem Box.same {b L : Addr} {H H' : Hp} (B : Box b L H) (s : Same H H') : Box b L H' := by
  obtain ⟨gs, now, seed, turn, B⟩ := B
  exact ⟨gs, now, seed, turn, s _ _ B.dc, s _ _ B.ls, B.now0, B.seed0, B.seed1, B.pos⟩
/-- another object of ours is changed -/
theorem Box.put {b L p : Addr} {H : Hp} {o : HO} (B : Box b L H) (n1 : p ≠ b) (n2 : p ≠ L) : Box b L (upd H p o) := by
  obtain ⟨gs, now, seed, turn, B⟩ := B
  exact ⟨gs, now, seed, turn, by rw [upd_ne n1.symm]; exact B.dc, by rw [upd_ne n2.symm]; exact B.ls, B.now0, B.seed0, B.seed1, B.pos⟩
theorem _root_.L2.Same.kp {b L : Addr} {H H1 H2 : Hp} (s : Same H H1) (nb : H b = none) (nL : H L = none) (k : Kp b L H1 H2) : Same H H2 := fun a o e => k a o (ne_of_none e nb) (ne_of_none e nL) (s a o e)
theorem Kp.new2 {b L p : Addr} {H H' : Hp} {o : HO} (k : Kp b L H H') (n : H' p = none) : Kp b L H (upd H' p o) := fun a u n1 n2 h => by
  rw [upd_ne (ne_of_none (k a u n1 n2 h) n)]
  exact k a u n1 n2 h
/-- a list of names -/
def nmV (ns : List (List Nat)) : List V := ns.map fun l => V.str (sL l)
theorem glue_letters : ∀ cs : List Nat, Txt.join "" (cs.map fun c => sL [c]) = sL cs := by
  have step : ∀ (cs : List Nat) (acc : List Nat), (cs.map fun c => sL [c]).foldl (fun acc p => acc ++ (Str.ofString "").cps ++ p.cps) acc.toArray = (acc ++ cs).toArray := by
    intro cs
    induction cs with
    | nil => intro acc; simp
    | cons c cs ih =>
      intro acc
      have e : (Str.ofString "").cps = #[] := by decide +kernel
      simp only [List.map_cons, List.foldl_cons]
      rw [show acc.toArray ++ (Str.ofString "").cps ++ (sL [c]).cps = (acc ++ [c]).toArray from by rw [e]; simp [sL], ih]
      simp
  intro cs
  cases cs with
  | nil => rfl
  | cons c cs =>
    show Str.mk _ = _
    simp only [List.map_cons, List.drop_succ_cons, List.drop_zero, List.headD_cons]
    have := step cs [c]
    unfold sL
    congr 1

/-! ### items in a drawn order -/
structure TxtM (mg : Str → Option Value) : Prop where
  b_list : mg "list" = none
  b_range : mg "range" = none
  b_len : mg "len" = none
def spMixed (K : PySem.W.Frag) : Sp := fun vs H Q _ => ∃ b L l xs, vs = [.ref b, .ref l] ∧ Box b L H ∧ (SqL K H l xs ∨ SqT K H l xs) ∧ xs.length ≤ 1000 ∧
  ∀ p ys H', H p = none → List.Perm ys xs → H' p = some (.lst ys) → Box b L H' → Kp b L H H' → Q (.ref p) H'
theorem perm_pop {α : Type} {f l xs : List α} {k : Nat} {y : α} (h : List.Perm (f ++ l) xs) (hk : l[k]? = some y) : List.Perm ((f ++ [y]) ++ l.eraseIdx k) xs := by
  obtain ⟨hl, e⟩ := List.getElem?_eq_some_iff.mp hk
  have z : List.Perm (y :: l.eraseIdx k) l := by
    have e2 : l = l.take k ++ y :: l.drop (k + 1) := by
      rw [← e, List.getElem_cons_drop hl, List.take_append_drop]
    have e3 : l.eraseIdx k = l.take k ++ l.drop (k + 1) := List.eraseIdx_eq_take_drop_succ l k
    rw [e3]
    conv => rhs; rw [e2]
    exact List.perm_middle.symm
  refine List.Perm.trans ?_ h
  rw [List.append_assoc]
  exact List.Perm.append_left f z
section
variable {P : Program} {w : World} {K : PySem.W.Frag} {mg : Str → Option Value} {base : Heap} {C : Addr}
theorem scMixed : FnScope ["_law_box_here", "_law_items", "_law_left", "_law_found", "_law_turn"] ["_law_box_here", "_law_items"] (defScope sMixed) := ⟨rfl, rfl, rfl, by decide +kernel, rfl, by decide +kernel, by decide +kernel⟩
theorem ok_mixed {f : Addr} {fd : FuncData} (F : Fun K "_law_mixed" "_law_mixed" sMixed f fd) (T : TxtM mg) (cTake : Cal P w K mg base 1 "_law_take" ["_law_box_here", "_law_many"] spTake) : FnOk P w K mg base CX0 2 f fd ["_law_box_here", "_law_items"] (spMixed K) := by
  refine F.ok scMixed (fun vs H Q E h => ?_) (fun cdv A outer s H vs Q E hr h => ?_)
  · obtain ⟨b, L, l, xs, rfl, _⟩ := h
    rfl
  · obtain ⟨b, L, l, xs, rfl, B, hS, hz, k⟩ := h
    have nd := scMixed.nd
    refine ⟨_, (pss_cons (ps_par (i := 2) (j := 3) (by rfl) nd rfl rfl (by decide) rfl rfl (pa_cons (pe_callTy call_list_of (by rfl) T.b_list (by decide +kernel) (pa_cons (pv 1) pa_nil)) (pa_cons (pe_lst pa_nil) pa_nil)) (by rfl))
      (pss_cons (ps_for PassesOwn.never rfl (pi_range1 (by rfl) T.b_range (pa_cons (pe_callB call_len_seq (by rfl) T.b_len PySem.boot_len (pa_cons (pv 2) pa_nil)) pa_nil)) (pg_name (i := 4) nd rfl (.inl rfl))
        (pss_one (ps_expr (pe_bm PySem.F.plainAttrs_list PySem.F.slot_list_append PySem.F.type_list_append mt_append (pv 3) (pa_cons (pe_bm PySem.F.plainAttrs_list PySem.F.slot_list_pop PySem.F.type_list_pop mt_popAt (pv 2) (pa_cons (pe_cal cTake (hr.mono (by decide)) (by rfl) (pa_cons (pv 0) (pa_cons (pe_callB call_len_seq (by rfl) T.b_len PySem.boot_len (pa_cons (pv 2) pa_nil)) pa_nil))) pa_nil)) pa_nil)))))
      (pss_one (ps_ret (pv 3))))), ?_⟩
    refine ⟨_, rfl, l, xs, rfl, hS, fun p1 hp1 => ⟨(by show 0 ≤ sizeLine; decide), fun p2 hp2 => ?_⟩⟩
    have n12 : p1 ≠ p2 := fun z => by rw [← z, upd_same] at hp2; cases hp2
    have hp2' : H p2 = none := by rw [upd_ne n12.symm] at hp2; exact hp2
    obtain ⟨b1, b2⟩ := B.apart hp1
    obtain ⟨b3, b4⟩ := B.apart hp2'
    refine ⟨_, _, rfl, ?_⟩
    have e1 : (upd (upd H p1 (.lst xs)) p2 (.lst [])) p1 = some (.lst xs) := by rw [upd_ne n12, upd_same]
    refine ⟨_, rfl, p1, xs, rfl, .inl (SqL.of e1), _, rfl, (by omega), (by omega), ?_⟩
    refine for_range (n := xs.length) (fun i σ H1 => ∃ (left found : List V) (v : Option V), σ = [some (.ref b), some (.ref l), some (.ref p1), some (.ref p2), v] ∧ H1 p1 = some (.lst left) ∧ H1 p2 = some (.lst found) ∧ List.Perm (found ++ left) xs ∧ found.length = i ∧ Box b L H1 ∧ Kp b L H H1)
      ⟨xs, [], none, rfl, e1, upd_same, List.Perm.refl _, rfl, (B.new hp1).new hp2, ((Kp.refl b L H).new hp1).new hp2'⟩ ?_ ?_
    · rintro i σ H1 hi ⟨left, found, v, rfl, h1, h2, pm, hf, B1, k1⟩
      have hl : left.length + i = xs.length := by
        have := pm.length_eq
        rw [List.length_append] at this
        omega
      have hl0 : 0 < left.length := by omega
      refine ⟨_, rfl, .inl ⟨rfl, _, SqL.of h2⟩, _, rfl, .inl ⟨rfl, _, SqL.of h1⟩, _, rfl, _, rfl, p1, left, rfl, .inl (SqL.of h1), b, L, _, rfl, by omega, ?_, B1, fun d H2 d0 d1 B2 k2 => ?_⟩
      · have : (left.length : Int).natAbs < 2 ^ 20 := by
          have e : (2 : Nat) ^ 20 = 1048576 := by decide
          omega
        exact Nat.lt_of_lt_of_le (PySem.Flt.log2_lt_of (by decide) this) (by decide)
      have h1' := k2 _ _ b1 b2 h1
      have h2' := k2 _ _ b3 b4 h2
      obtain ⟨y, hy⟩ : ∃ y, left[d.toNat]? = some y := ⟨left[d.toNat], List.getElem?_eq_getElem (by omega)⟩
      refine ⟨p1, left, d, d.toNat, y, rfl, rfl, h1', by omega, by omega, seqIndex_of d0 d1, hy, ?_⟩
      refine ⟨p2, _, _, rfl, rfl, (by rw [upd_ne n12.symm]; exact h2'), small1000 (by omega), ?_⟩
      refine ⟨left.eraseIdx d.toNat, found ++ [y], _, rfl, (by rw [upd_ne n12, upd_same]), upd_same, perm_pop pm hy, by rw [List.length_append]; simp [hf], (B2.put b1 b2).put b3 b4, fun c o c1 c2 hc => ?_⟩
      rw [upd_ne (ne_of_none hc hp2'), upd_ne (ne_of_none hc hp1)]
      exact k2 c o c1 c2 (k1 c o c1 c2 hc)
    · rintro σ H1 ⟨left, found, v, rfl, h1, h2, pm, hf, B1, k1⟩
      have hl := pm.length_eq
      rw [List.length_append] at hl
      have e : left = [] := List.length_eq_zero_iff.mp (by omega)
      subst e
      rw [List.append_nil] at pm
      exact ⟨_, rfl, k p2 found H1 hp2' pm h2 B1 k1⟩
end

structure TxtN (mg : Str → Option Value) : Prop where
  b_range : mg "range" = none
  b_len : mg "len" = none
  b_int : mg "int" = none
  b_min : mg "min" = none
def spNames : Sp := fun vs H Q _ => ∃ b L m, vs = [.ref b, .int (m : Nat)] ∧ m ≤ 40 ∧ Box b L H ∧ ∀ p ns H', H p = none → Nms ns m → H' p = some (.lst (nmV ns)) → Box b L H' → Kp b L H H' → Q (.ref p) H'
abbrev nN : List Str := ["_law_box_here", "_law_many", "_law_letters", "_law_words", "_law_stem", "_law_at", "_law_first", "_law_form", "_law_found", "_law_pairs", "_law_k", "_law_letter", "_law_long", "_law_ends", "_law_odd", "_law_some", "_law_word"]
theorem scNames : FnScope nN ["_law_box_here", "_law_many"] (defScope sNames) := ⟨rfl, rfl, rfl, by decide +kernel, rfl, by decide +kernel, by decide +kernel⟩
theorem op_notInK {X : Cx} (K : PySem.W.Frag) (hK : X.K = K := by rfl) : OpR X (compareOp .NotIn) (rIn K true) := by
  rw [← hK]
  exact op_notIn_seq
abbrev lowC (cs : List Nat) : Bool := cs.all fun c => decide (97 ≤ c) && decide (c ≤ 122)
theorem letters_sum (cs : List Nat) (h : cs.length ≤ 10) : ((cs.map fun c => sL [c]).map (·.length)).sum + (cs.map fun c => sL [c]).length * (Str.ofString "").length ≤ 16777216 := by
  have e : (Str.ofString "").length = 0 := by decide +kernel
  have z : ((cs.map fun c => sL [c]).map (·.length)).sum = cs.length := by
    clear h
    induction cs with
    | nil => rfl
    | cons c cs ih =>
      simp only [List.map_cons, List.sum_cons, ih, sL_len]
      simp
      omega
  rw [e, z]
  omega
theorem low_snoc {cs : List Nat} {d : Nat} (h : lowC cs = true) (hd : d < 26) : lowC (cs ++ [97 + d]) = true := by
  unfold lowC at *
  rw [all_app, h]
  simp
  omega
theorem log_small {i : Int} (h0 : 0 ≤ i) (h1 : i < 1000) : i.natAbs.log2 < 9000 := by
  have : i.natAbs < 2 ^ 10 := by
    have e : (2 : Nat) ^ 10 = 1024 := by decide
    omega
  exact Nat.lt_of_lt_of_le (PySem.Flt.log2_lt_of (by decide) this) (by decide)
def back : V → List Nat
  | .str s => s.cps.toList
  | _ => []
theorem perm_nm {ys : List V} {L : List (List Nat)} (h : List.Perm ys (nmV L)) : ∃ ws, ys = nmV ws ∧ List.Perm ws L := by
  refine ⟨ys.map back, ?_, ?_⟩
  · unfold nmV
    rw [List.map_map]
    refine (List.map_id' ys).symm.trans (List.map_congr_left fun y hy => ?_)
    obtain ⟨l, _, rfl⟩ := List.mem_map.mp (h.mem_iff.mp hy)
    show V.str (sL l) = V.str (sL (back (V.str (sL l))))
    simp [back, sL]
  · have := h.map back
    unfold nmV at this
    rw [List.map_map] at this
    have e : (back ∘ fun l => V.str (sL l)) = id := by
      funext l
      simp [back, sL]
    rw [e, List.map_id] at this
    exact this
theorem Kp.free {b L p : Addr} {H H' : Hp} (k : Kp b L H H') (n : H' p = none) (h1 : p ≠ b) (h2 : p ≠ L) : H p = none := by
  cases e : H p with
  | none => rfl
  | some o =>
    have := k p o h1 h2 e
    rw [n] at this
    cases this
theorem str_a : Str.ofString "a" = sL [97] := by decide +kernel
theorem str_b : Str.ofString "b" = sL [98] := by decide +kernel
theorem pairs_le : ∀ k, ∀ l ∈ pairsL k, l.length ≤ k + 1
  | 0, l, h => by
    simp [pairsL] at h
    rcases h with rfl | rfl <;> simp
  | k + 1, l, h => by
    have ih := pairs_le k
    have g : ((pairsL k).getD k []).length ≤ k + 1 := by
      have hk : k < (pairsL k).length := by rw [pairs_len]; omega
      rw [List.getD_eq_getElem?_getD, List.getElem?_eq_getElem hk]
      exact ih _ (List.getElem_mem hk)
    simp only [pairsL, List.mem_append, List.mem_cons, List.not_mem_nil, or_false] at h
    rcases h with h | rfl | rfl
    · exact Nat.le_succ_of_le (ih l h)
    · rw [List.length_append]; exact Nat.succ_le_succ g
    · rw [List.length_append]; exact Nat.succ_le_succ g
theorem pairs_at (k : Nat) : (nmV (pairsL k))[k]? = some (V.str (sL ((pairsL k).getD k []))) ∧ ((pairsL k).getD k []).length ≤ k + 1 := by
  have hk : k < (pairsL k).length := by rw [pairs_len]; omega
  refine ⟨?_, ?_⟩
  · unfold nmV
    rw [List.getElem?_map, List.getD_eq_getElem?_getD, List.getElem?_eq_getElem hk]
    rfl
  · rw [List.getD_eq_getElem?_getD, List.getElem?_eq_getElem hk]
    exact pairs_le k _ (List.getElem_mem hk)
theorem nmV_snoc (ns : List (List Nat)) (l : List Nat) : nmV ns ++ [V.str (sL l)] = nmV (ns ++ [l]) := by
  unfold nmV
  rw [List.map_append]
  rfl
theorem nmV_len (ns : List (List Nat)) : (nmV ns).length = ns.length := List.length_map ..
theorem ltr_str (first k : Nat) (c : Bool) (hc : c = decide (25 < k)) : sL [97 + (first + 7 * k) % 26] ++ Txt.mul (sL [97 + k / 26]) (if c then 1 else 0) = sL (ltr first k) := by
  subst hc
  unfold ltr
  by_cases h : 25 < k
  · simp only [h, decide_true, if_true]
    rw [mul1, sL_add]
    rfl
  · simp only [h, decide_false, if_false]
    rw [show (if false = true then (1 : Int) else 0) = 0 from rfl, mul0, sL_add]
    rfl
theorem cut_nm (ls : List (List Nat)) (m : Nat) : cutV (nmV ls) none (some (m : Int)) = nmV (ls.take m) := by
  unfold cutV nmV
  rw [HT.sIx_nat, HT.sIx_none, List.drop_zero, Nat.sub_zero, List.length_map, ← List.map_take]
  congr 1
  rw [Nat.min_def]
  split
  · rfl
  · rw [List.take_of_length_le (Nat.le_refl _), List.take_of_length_le (by omega)]
theorem inV_nm (w : List Nat) (fs : List (List Nat)) : inV (V.str (sL w)) (nmV fs) = fs.contains w := by
  unfold inV nmV
  induction fs with
  | nil => rfl
  | cons f fs ih =>
    simp only [List.map_cons, List.any_cons, List.contains_cons, ih]
    congr 1
    by_cases h : w = f
    · subst h
      show (sL w == sL w) = (w == w)
      simp
    · have h2 : ¬ sL w = sL f := fun z => h (sL_inj z)
      have h3 : ¬ sL f = sL w := fun z => h2 z.symm
      have h4 : ¬ f = w := fun z => h z.symm
      show (sL f == sL w) = (w == f)
      rw [beq_eq_false_iff_ne.mpr h3, beq_eq_false_iff_ne.mpr h]
theorem flat_nm (fs : List (List Nat)) : (nmV fs).all flatV = true := by
  unfold nmV
  simp [List.all_map, flatV]
section
variable {P : Program} {w : World} {K : PySem.W.Frag} {mg : Str → Option Value} {base : Heap}
theorem ok_names {f : Addr} {fd : FuncData} (F : Fun K "_law_names" "_law_names" sNames f fd) (T : TxtN mg) (cTake : Cal P w K mg base 1 "_law_take" ["_law_box_here", "_law_many"] spTake)
    (cMixed : Cal P w K mg base 2 "_law_mixed" ["_law_box_here", "_law_items"] (spMixed K)) : FnOk P w K mg base CX0 3 f fd ["_law_box_here", "_law_many"] spNames := by
  refine F.ok scNames (fun vs H Q E h => ?_) (fun cdv A outer s H vs Q E hr h => ?_)
  · obtain ⟨b, L, m, rfl, _⟩ := h
    rfl
  · obtain ⟨b, L0, m, rfl, hm, B, k⟩ := h
    have nd := scNames.nd
    refine ⟨_, (pss_cons (ps_set (i := 2) nd rfl (.inr rfl) pe_str)
      (pss_cons (ps_set (i := 3) nd rfl (.inl rfl) (pe_split pe_str pe_str))
      (pss_cons (ps_set (i := 4) nd rfl (.inl rfl) (pe_join pe_str (pe_lc (own := [("_law_k", 10)]) (g := gName 10) rfl nd (pi_range1 (by rfl) T.b_range (pa_cons (pe_cal cTake (hr.mono (by decide)) (by rfl) (pa_cons (pv 0) (pa_cons pe_int pa_nil))) pa_nil)) (blkOk_by (own := [("_law_k", 10)]) (N := nN) (sc := defScope sNames) (by decide +kernel)) (fun _ _ _ _ _ => (pg_name (i := 10) nd rfl (.inl rfl))) (fun _ _ _ _ _ => pts_nil) (fun _ _ _ _ _ => (pe_ix ix_str (pv 2) (pe_cal cTake (hr.mono (by decide)) (by rfl) (pa_cons (pv 0) (pa_cons pe_int pa_nil))) (fun _ _ => rfl))))))
      (pss_cons (ps_asg (pe_tup (pa_cons (pe_cal cTake (hr.mono (by decide)) (by rfl) (pa_cons (pv 0) (pa_cons (pe_op op_add (pe_callB call_len_str (by rfl) T.b_len PySem.boot_len (pa_cons (pv 4) pa_nil)) pe_int) pa_nil))) (pa_cons (pe_cal cTake (hr.mono (by decide)) (by rfl) (pa_cons (pv 0) (pa_cons pe_int pa_nil))) (pa_cons (pe_cal cTake (hr.mono (by decide)) (by rfl) (pa_cons (pv 0) (pa_cons pe_int pa_nil))) pa_nil)))) (pg_tup (by rfl) (pgs_cons (pg_name (i := 5) nd rfl (.inl rfl)) (pgs_cons (pg_name (i := 6) nd rfl (.inr rfl)) (pgs_cons (pg_name (i := 7) nd rfl (.inl rfl)) pgs_nil)))))
      (pss_cons (ps_asg (pe_tup (pa_cons (pe_lst pa_nil) (pa_cons (pe_cal cMixed (hr.mono (by decide)) (by rfl) (pa_cons (pv 0) (pa_cons (pv 3) pa_nil))) (pa_cons (pe_lst (pa_cons pe_str (pa_cons pe_str pa_nil))) pa_nil)))) (pg_tup (by rfl) (pgs_cons (pg_name (i := 8) nd rfl (.inr rfl)) (pgs_cons (pg_name (i := 3) nd rfl (.inl rfl)) (pgs_cons (pg_name (i := 9) nd rfl (.inl rfl)) pgs_nil)))))
      (pss_cons (ps_for PassesOwn.never rfl (pi_range1 (by rfl) T.b_range (pa_cons (pv 1) pa_nil)) (pg_name (i := 10) nd rfl (.inl rfl))
        (pss_cons (ps_set (i := 11) nd rfl (.inl rfl) (pe_op op_add_str (pe_ix ix_str (pv 2) (pe_op op_mod (pe_op op_add (pv 6) (pe_op op_mul pe_int (pv 10))) pe_int) (fun _ _ => rfl)) (pe_op op_mulStr (pe_ix ix_str (pv 2) (pe_op op_fdiv (pv 10) pe_int) (fun _ _ => rfl)) (pe_callTy call_int1 (by rfl) T.b_int (by decide +kernel) (pa_cons (pe_cmpR op_gt (pv 10) pe_int (nomark _)) pa_nil)))))
          (pss_cons (ps_expr (pe_bm PySem.F.plainAttrs_list PySem.F.slot_list_append PySem.F.type_list_append mt_append (pv 8) (pa_cons (pe_op op_add_str (pe_op op_add_str (pe_slice sl_str (pv 4) po_none (po_some (pv 5))) (pv 11)) (pe_slice sl_str (pv 4) (po_some (pv 5)) po_none)) pa_nil)))
          (pss_one (ps_expr (pe_bm PySem.F.plainAttrs_list PySem.F.slot_list_extend PySem.F.type_list_extend mt_extend (pv 9) (pa_cons (pe_lst (pa_cons (pe_op op_add_str (pe_ix ix_list (pv 9) (pv 10) (fun _ _ => rfl)) pe_str) (pa_cons (pe_op op_add_str (pe_ix ix_list (pv 9) (pv 10) (fun _ _ => rfl)) pe_str) pa_nil))) pa_nil)))))))
      (pss_cons (ps_set (i := 12) nd rfl (.inr rfl) (pe_join pe_str (pe_lc (own := [("_law_k", 10)]) (g := gName 10) rfl nd (pi_range1 (by rfl) T.b_range (pa_cons pe_int pa_nil)) (blkOk_by (own := [("_law_k", 10)]) (N := nN) (sc := defScope sNames) (by decide +kernel)) (fun _ _ _ _ _ => (pg_name (i := 10) nd rfl (.inl rfl))) (fun _ _ _ _ _ => pts_nil) (fun _ _ _ _ _ => (pe_ix ix_str (pv 2) (pe_cal cTake (hr.mono (by decide)) (by rfl) (pa_cons (pv 0) (pa_cons pe_int pa_nil))) (fun _ _ => rfl))))))
      (pss_cons (ps_setLc (i := 13) (own := [("_law_k", 10)]) (g := gName 10) rfl nd rfl rfl (sw_true rfl rfl rfl (by decide +kernel)) (pi_range1 (by rfl) T.b_range (pa_cons (pe_callB (call_min2 rfl) (by rfl) T.b_min (by decide +kernel) (pa_cons (pv 1) (pa_cons pe_int pa_nil))) pa_nil)) (blkOk_by (own := [("_law_k", 10)]) (N := nN) (sc := defScope sNames) (by decide +kernel)) (fun _ _ _ _ _ => (pg_name (i := 10) nd rfl (.inl rfl))) (fun _ _ _ _ _ => pts_nil) (fun _ _ _ _ _ => (pe_op op_add_str (pv 12) (pe_ix ix_str (pv 2) (pe_op op_mod (pe_op op_add (pv 6) (pe_op op_mul pe_int (pv 10))) pe_int) (fun _ _ => rfl)))))
      (pss_cons (ps_set (i := 14) nd rfl (.inl rfl) (pe_op op_cat (pe_lc (own := [("_law_word", 16)]) (g := gName 16) rfl nd (pi_list (pv 3)) (blkOk_by (own := [("_law_word", 16)]) (N := nN) (sc := defScope sNames) (by decide +kernel)) (fun _ _ _ _ _ => (pg_name (i := 16) nd rfl (.inl rfl))) (fun _ _ _ _ _ => pts_one (pt_cmpR (op_notInK K) (pv 16) (pv 8) rfl)) (fun _ _ _ _ _ => (pv 16))) (pv 8)))
      (pss_cons (ps_set (i := 15) nd rfl (.inl rfl) (pe_lst (pa_cons (pv 14) (pa_cons (pv 9) (pa_cons (pe_ix ix_list (pe_lst (pa_cons (pv 13) (pa_cons (pv 8) pa_nil))) (pe_callTy call_int1 (by rfl) T.b_int (by decide +kernel) (pa_cons (pe_cmpR op_gt (pv 1) pe_int (nomark _)) pa_nil)) (fun _ _ => rfl)) (pa_cons (pv 8) (pa_cons (pv 8) pa_nil)))))))
      (pss_one (ps_ret (pe_cal cMixed (hr.mono (by decide)) (by rfl) (pa_cons (pv 0) (pa_cons (pe_slice sl_list (pe_ix ix_list (pv 15) (pv 7) (fun _ _ => rfl)) po_none (po_some (pv 1))) pa_nil))))))))))))))), ?_⟩
    -- words
    refine ⟨⟨_, rfl⟩, _, _, rfl, rfl, (by decide +kernel), (by decide +kernel), fun pw npw => ?_⟩
    have e1 : (Txt.split wordsT " ").map V.str = nmV wordsL := by
      rw [words_eq]
      unfold nmV
      rw [List.map_map]
      rfl
    have lw : (upd H pw (.lst ((Txt.split wordsT " ").map V.str))) pw = some (.lst (nmV wordsL)) := by rw [upd_same, e1]
    have B1 := B.new (o := .lst ((Txt.split wordsT " ").map V.str)) npw
    have k1 : Kp b L0 H (upd H pw (.lst ((Txt.split wordsT " ").map V.str))) := Kp.new2 (Kp.refl b L0 H) npw
    obtain ⟨w1, w2⟩ := B.apart npw
    generalize upd H pw (.lst ((Txt.split wordsT " ").map V.str)) = H1 at lw B1 k1 ⊢
    try dsimp only [tNext]
    -- stem
    refine ⟨⟨_, rfl⟩, _, rfl, b, L0, 5, rfl, by decide, by decide +kernel, B1, fun d1 H2 a1 c1 B2 k2 => ⟨_, rfl, by omega, by omega, fun D hD => ?_⟩⟩
    have lw := k2 _ _ w1 w2 lw
    have k02 := k1.trans k2
    obtain ⟨n1, n2⟩ := B2.apart hD
    refine lc_range (n := d1.toNat) (fun t H3 => ∃ cs : List Nat, H3 D = some (.lst (cs.map fun c => V.str (sL [c]))) ∧ cs.length = t ∧ lowC cs = true ∧ Box b L0 H3 ∧ Kp b L0 H2 H3) ⟨[], upd_same, rfl, rfl, B2.new hD, Kp.new2 (Kp.refl b L0 H2) hD⟩ ?_ ?_
    · rintro t H3 ht ⟨cs, e1, l1, a1, B3, k3⟩
      refine ⟨rfl, _, rfl, _, rfl, b, L0, 26, rfl, by decide, by decide +kernel, B3, fun d H4 a4 c4 B4 k4 => ?_⟩
      obtain ⟨dn, rfl⟩ : ∃ dn : Nat, d = dn := ⟨d.toNat, by omega⟩
      refine ⟨_, _, 97 + dn, rfl, rfl, (by decide +kernel), letter_at dn (by omega), _, k4 D _ n1 n2 e1, small1000 (by rw [List.length_map]; omega), cs ++ [97 + dn], ?_, by simp [l1], low_snoc a1 (by omega), B4.put n1 n2, ?_⟩
      · rw [upd_same, List.map_append]
        rfl
      · exact Kp.new (k3.trans k4) hD
    rintro H3 ⟨stem, e1, l1, lows, B3, k3⟩
    have l4 : stem.length ≤ 4 := by omega
    have k03 := k02.trans k3
    have lw := k3 _ _ w1 w2 lw
    refine ⟨_, D, stem.map (fun c => sL [c]), rfl, rfl, .inl (SqL.of (by rw [List.map_map]; exact e1)), letters_sum stem (by omega), ?_⟩
    rw [glue_letters]
    clear e1 hD n1 n2 k2 k3 B2 B1 k1 k02
    try dsimp only [tNext]
    -- at, first, form
    refine ⟨_, rfl, _, rfl, _, rfl, (by rw [sL_len, sizeLine_eq]; omega), _, _, rfl, rfl, b, L0, _, rfl, (by omega), log_small (by omega) (by rw [sL_len]; omega), B3, fun at0 H4 a4 c4 B4 k4 => ?_⟩
    refine ⟨_, rfl, b, L0, 26, rfl, by decide, by decide +kernel, B4, fun first0 H5 a5 c5 B5 k5 => ?_⟩
    refine ⟨_, rfl, b, L0, 5, rfl, by decide, by decide +kernel, B5, fun form H6 a6 c6 B6 k6 => ?_⟩
    rw [sL_len] at c4
    obtain ⟨at_, rfl⟩ : ∃ n : Nat, at0 = n := ⟨at0.toNat, by omega⟩
    obtain ⟨first, rfl⟩ : ∃ n : Nat, first0 = n := ⟨first0.toNat, by omega⟩
    have hat : at_ ≤ stem.length := by omega
    refine ⟨(by show 3 ≤ sizeLine; decide), fun t1 nt1 => ⟨t1, _, rfl, SqT.of upd_same, rfl, _, _, rfl, _, _, rfl, _, _, rfl, rfl, ?_⟩⟩
    have k06 := k03.trans (k4.trans (k5.trans k6))
    have lw := (k4.trans (k5.trans k6)) _ _ w1 w2 lw
    have k07 : Kp b L0 H (upd H6 t1 (.tup [.int at_, .int first, .int form])) := Kp.new2 k06 nt1
    have lw7 : (upd H6 t1 (.tup [.int at_, .int first, .int form])) pw = some (.lst (nmV wordsL)) := by rw [upd_ne (ne_of_none lw nt1)]; exact lw
    have B7 := B6.new (o := .tup [.int at_, .int first, .int form]) nt1
    generalize upd H6 t1 (.tup [.int at_, .int first, .int form]) = H7 at k07 lw7 B7 ⊢
    clear k4 k5 k6 k06 k03 B3 B4 B5 B6 nt1 lw a4 a5 a1 c1
    try dsimp only [tNext]
    -- found, words, pairs
    refine ⟨(by show 0 ≤ sizeLine; decide), fun pf npf => ?_⟩
    have k08 : Kp b L0 H (upd H7 pf (.lst [])) := Kp.new2 k07 npf
    have lf : (upd H7 pf (.lst [])) pf = some (.lst []) := upd_same
    obtain ⟨f1, f2⟩ := B7.apart npf
    have hf0 := Kp.free k07 npf f1 f2
    have B8 := B7.new (o := .lst []) npf
    have lw8 : (upd H7 pf (.lst [])) pw = some (.lst (nmV wordsL)) := by rw [upd_ne (ne_of_none lw7 npf)]; exact lw7
    generalize upd H7 pf (.lst []) = H8 at k08 lf B8 lw8 ⊢
    refine ⟨_, rfl, _, rfl, b, L0, pw, _, rfl, B8, .inl (SqL.of lw8), (by rw [show (nmV wordsL).length = 16 from by decide +kernel]; omega), fun pm ys H9 npm perm lm B9 k9 => ?_⟩
    have lf := k9 _ _ f1 f2 lf
    have k09 := k08.trans k9
    have nmf : pm ≠ pf := fun z => by rw [z, (show H8 pf = some (.lst []) by assumption)] at npm; cases npm
    obtain ⟨ws, rfl, pws⟩ := perm_nm perm
    have hws : Nms ws 16 := words_nms.perm pws
    refine ⟨(by show 2 ≤ sizeLine; decide), fun pp npp => ⟨(by show 3 ≤ sizeLine; decide), fun t2 nt2 => ⟨t2, _, rfl, SqT.of upd_same, rfl, _, _, rfl, _, _, rfl, _, _, rfl, rfl, ?_⟩⟩⟩
    rw [str_a, str_b] at nt2 ⊢
    have lf1 : (upd (upd H9 pp (.lst [.str (sL [97]), .str (sL [98])])) t2 (.tup [.ref pf, .ref pm, .ref pp])) pf = some (.lst []) := by
      have z : (upd H9 pp (.lst [.str (sL [97]), .str (sL [98])])) pf = some (.lst []) := by rw [upd_ne (ne_of_none lf npp)]; exact lf
      rw [upd_ne (ne_of_none z nt2)]
      exact z
    have lm1 : (upd (upd H9 pp (.lst [.str (sL [97]), .str (sL [98])])) t2 (.tup [.ref pf, .ref pm, .ref pp])) pm = some (.lst (nmV ws)) := by
      have z : (upd H9 pp (.lst [.str (sL [97]), .str (sL [98])])) pm = some (.lst (nmV ws)) := by rw [upd_ne (ne_of_none lm npp)]; exact lm
      rw [upd_ne (ne_of_none z nt2)]
      exact z
    have lp1 : (upd (upd H9 pp (.lst [.str (sL [97]), .str (sL [98])])) t2 (.tup [.ref pf, .ref pm, .ref pp])) pp = some (.lst (nmV (pairsL 0))) := by
      have z : (upd H9 pp (.lst [.str (sL [97]), .str (sL [98])])) pp = some (.lst (nmV (pairsL 0))) := upd_same
      rw [upd_ne (ne_of_none z nt2)]
      exact z
    have B10 := (B9.new (o := .lst [.str (sL [97]), .str (sL [98])]) npp).new (o := .tup [.ref pf, .ref pm, .ref pp]) nt2
    have k10 : Kp b L0 H (upd (upd H9 pp (.lst [.str (sL [97]), .str (sL [98])])) t2 (.tup [.ref pf, .ref pm, .ref pp])) := Kp.new2 (Kp.new2 k09 npp) nt2
    have nfp : pf ≠ pp := fun z => by rw [z, npp] at lf; cases lf
    have nmp : pm ≠ pp := fun z => by rw [z, npp] at lm; cases lm
    obtain ⟨p1, p2⟩ := B9.apart npp
    have hp0 := Kp.free k09 npp p1 p2
    generalize upd (upd H9 pp (.lst [.str (sL [97]), .str (sL [98])])) t2 (.tup [.ref pf, .ref pm, .ref pp]) = H10 at lf1 lm1 lp1 B10 k10 ⊢
    obtain ⟨m1, m2⟩ := B8.apart npm
    clear nt2 lf npf k09 k08 k07 lw7 lw8 B7 B8 B9 k9 lm
    try dsimp only [tNext]
    -- the loop
    refine ⟨_, rfl, _, rfl, by omega, by omega, ?_⟩
    refine for_range (n := m) (fun i σ H1 => ∃ v10 v11 v12 v13 v14 v15 v16 : Option V, σ = [some (.ref b), some (.int (m : Nat)), some (.str lettersT), some (.ref pm), some (.str (sL stem)), some (.int at_), some (.int first), some (.int form), some (.ref pf), some (.ref pp), v10, v11, v12, v13, v14, v15, v16] ∧
      H1 pf = some (.lst (nmV ((List.range i).map (fnd stem at_ first)))) ∧ H1 pp = some (.lst (nmV (pairsL i))) ∧ H1 pm = some (.lst (nmV ws)) ∧ Box b L0 H1 ∧ Kp b L0 H H1) ⟨_, _, _, _, _, _, _, rfl, lf1, lp1, lm1, B10, k10⟩ ?_ ?_
    · rintro i σ H1 hi ⟨v10, v11, v12, v13, v14, v15, v16, rfl, lf, lp, lm, BB, kk⟩
      have hmod : (first + 7 * i) % 26 < 26 := Nat.mod_lt _ (by decide)
      -- letter
      refine ⟨_, rfl, _, rfl, _, rfl, _, _, rfl, rfl, .inl (by omega), _, _, rfl, rfl, _, _, rfl, rfl, pos_lit (by decide), ?_⟩
      refine ⟨_, _, 97 + (first + 7 * i) % 26, rfl, rfl, (by decide +kernel), ?_, ?_⟩
      · rw [show ((first : Int) + 7 * (0 + (i : Int))) % 26 = (((first + 7 * i) % 26 : Nat) : Int) from by omega]
        exact letter_at _ hmod
      refine ⟨_, rfl, _, rfl, _, _, rfl, rfl, ⟨by decide, by decide⟩, ?_⟩
      refine ⟨_, _, 97 + i / 26, rfl, rfl, (by decide +kernel), ?_, ?_⟩
      · rw [show (0 + (i : Int)) / 26 = ((i / 26 : Nat) : Int) from by omega]
        exact letter_at _ (by omega)
      refine ⟨_, rfl, _, _, rfl, rfl, .inr ⟨_, rfl, ?_⟩⟩
      have ec : decide ((25 : Int) < 0 + (i : Int)) = decide (25 < i) := by
        by_cases z : 25 < i
        · rw [decide_eq_true z, decide_eq_true (by omega)]
        · rw [decide_eq_false z, decide_eq_false (by omega)]
      have el := ltr_str first i (decide ((25 : Int) < 0 + (i : Int))) ec
      have ml : ({ cps := #[97 + (first + 7 * i) % 26] } : Str).length + (Txt.mul { cps := #[97 + i / 26] } (if decide ((25 : Int) < 0 + (i : Int)) = true then 1 else 0)).length ≤ sizeLine := by
        cases decide ((25 : Int) < 0 + (i : Int))
        · show 1 + 0 ≤ sizeLine
          decide
        · show 1 + 1 ≤ sizeLine
          decide
      refine ⟨_, _, rfl, rfl, PyProof.Rows.mulOk_of 16 1 (by show 1 ≤ 16; decide) (by split <;> decide) (by split <;> decide) (by decide) (by decide), _, _, rfl, rfl, ml, ?_⟩
      have el' : ({ cps := #[97 + (first + 7 * i) % 26] } : Str) ++ Txt.mul { cps := #[97 + i / 26] } (if decide ((25 : Int) < 0 + (i : Int)) = true then 1 else 0) = sL (ltr first i) := el
      try dsimp only [tNext]
      rw [el']
      clear el el' ml ec
      -- found.append(stem[:at] + letter + stem[at:])
      have l2 := ltr_len first i
      have l2' : (ltr first i).length ≤ 2 := by split at l2 <;> omega
      have lt4 : (stem.take at_).length ≤ 4 := by rw [List.length_take]; omega
      have ld4 : (stem.drop at_).length ≤ 4 := by rw [List.length_drop]; omega
      refine ⟨_, rfl, .inl ⟨rfl, _, SqL.of lf⟩, ?_⟩
      refine ⟨_, rfl, _, rfl, _, rfl, _, rfl, (by rw [sL_len, sizeLine_eq]; omega), ?_⟩
      rw [sL_lo stem at_ hat]
      refine ⟨_, rfl, _, _, rfl, rfl, (by rw [sL_len, sL_len, sizeLine_eq]; omega), ?_⟩
      refine ⟨_, rfl, _, rfl, _, rfl, _, rfl, (by rw [sL_len, sizeLine_eq]; omega), ?_⟩
      rw [sL_hi stem at_ hat, sL_add]
      refine ⟨_, _, rfl, rfl, (by rw [sL_len, sL_len, sizeLine_eq, List.length_append]; omega), ?_⟩
      rw [sL_add]
      refine ⟨pf, _, _, rfl, rfl, lf, small1000 (by rw [nmV_len, List.length_map, List.length_range]; omega), ?_⟩
      have lfn : (upd H1 pf (.lst (nmV ((List.range i).map (fnd stem at_ first)) ++ [V.str (sL ((stem.take at_ ++ ltr first i) ++ stem.drop at_))]))) pf = some (.lst (nmV ((List.range (i + 1)).map (fnd stem at_ first)))) := by
        rw [upd_same, nmV_snoc, List.range_succ, List.map_append]
        rfl
      have lpn : (upd H1 pf (.lst (nmV ((List.range i).map (fnd stem at_ first)) ++ [V.str (sL ((stem.take at_ ++ ltr first i) ++ stem.drop at_))]))) pp = some (.lst (nmV (pairsL i))) := by
        rw [upd_ne nfp.symm]
        exact lp
      have lmn : (upd H1 pf (.lst (nmV ((List.range i).map (fnd stem at_ first)) ++ [V.str (sL ((stem.take at_ ++ ltr first i) ++ stem.drop at_))]))) pm = some (.lst (nmV ws)) := by
        rw [upd_ne nmf]
        exact lm
      have BBn := BB.put (o := .lst (nmV ((List.range i).map (fnd stem at_ first)) ++ [V.str (sL ((stem.take at_ ++ ltr first i) ++ stem.drop at_))])) f1 f2
      have kkn : Kp b L0 H (upd H1 pf (.lst (nmV ((List.range i).map (fnd stem at_ first)) ++ [V.str (sL ((stem.take at_ ++ ltr first i) ++ stem.drop at_))]))) := Kp.new kk hf0
      generalize upd H1 pf (.lst (nmV ((List.range i).map (fnd stem at_ first)) ++ [V.str (sL ((stem.take at_ ++ ltr first i) ++ stem.drop at_))])) = H2 at lfn lpn lmn BBn kkn ⊢
      try dsimp only [tNext]
      -- pairs.extend([pairs[k] + 'a', pairs[k] + 'b'])
      obtain ⟨pa, ple⟩ := pairs_at i
      have b97 : (sL ((pairsL i).getD i [])).length + (sL [97]).length ≤ sizeLine := by rw [sL_len, sL_len, sizeLine_eq]; show _ + 1 ≤ _; omega
      have b98 : (sL ((pairsL i).getD i [])).length + (sL [98]).length ≤ sizeLine := by rw [sL_len, sL_len, sizeLine_eq]; show _ + 1 ≤ _; omega
      have pa' : atI (nmV (pairsL i)) (0 + (i : Int)) = some (V.str (sL ((pairsL i).getD i []))) := by
        rw [Int.zero_add]
        exact atI_nat pa
      refine ⟨_, rfl, .inl ⟨rfl, _, SqL.of lpn⟩, ?_⟩
      refine ⟨_, rfl, _, rfl, pp, _, _, _, rfl, rfl, SqL.of lpn, pa', _, _, rfl, rfl, b97, ?_⟩
      refine ⟨_, rfl, _, rfl, pp, _, _, _, rfl, rfl, SqL.of lpn, pa', _, _, rfl, rfl, b98, ?_⟩
      refine ⟨(by show 2 ≤ sizeLine; decide), fun q nq => ?_⟩
      rw [sL_add, sL_add]
      have nqf : q ≠ pf := fun z => by rw [z, lfn] at nq; cases nq
      have nqp : q ≠ pp := fun z => by rw [z, lpn] at nq; cases nq
      have nqm : q ≠ pm := fun z => by rw [z, lmn] at nq; cases nq
      refine ⟨pp, q, _, _, rfl, rfl, (by rw [upd_ne nqp.symm]; exact lpn), upd_same, (by rw [nmV_len, pairs_len, sizeLine_eq]; show 2 + 2 * i + 2 ≤ _; omega), ?_⟩
      refine ⟨_, _, _, _, _, _, _, rfl, ?_, ?_, ?_, (BBn.new nq).put p1 p2, Kp.new (Kp.new2 kkn nq) hp0⟩
      · rw [upd_ne nfp, upd_ne nqf.symm]
        exact lfn
      · rw [upd_same]
        unfold nmV
        rw [show pairsL (i + 1) = pairsL i ++ [(pairsL i).getD i [] ++ [97], (pairsL i).getD i [] ++ [98]] from rfl, List.map_append]
        rfl
      · rw [upd_ne nmp, upd_ne nqm.symm]
        exact lmn
    · rintro σ H1 ⟨v10, v11, v12, v13, v14, v15, v16, rfl, lf, lp, lm, BB, kk⟩
      clear lf1 lm1 lp1 B10 k10
      have fN := fnd_nms (stem := stem) (at_ := at_) (first := first) (m := m) l4 lows hm
      -- long
      refine ⟨⟨_, rfl⟩, _, rfl, by decide, by decide, fun D hD => ?_⟩
      obtain ⟨n1, n2⟩ := BB.apart hD
      refine lc_range (n := 5) (fun t H3 => ∃ cs : List Nat, H3 D = some (.lst (cs.map fun c => V.str (sL [c]))) ∧ cs.length = t ∧ lowC cs = true ∧ Box b L0 H3 ∧ Kp b L0 H1 H3) ⟨[], upd_same, rfl, rfl, BB.new hD, Kp.new2 (Kp.refl b L0 H1) hD⟩ ?_ ?_
      · rintro t H3 ht ⟨cs, e1, l1, a1, B3, k3⟩
        refine ⟨rfl, _, rfl, _, rfl, b, L0, 25, rfl, by decide, by decide +kernel, B3, fun d H4 a4 c4 B4 k4 => ?_⟩
        obtain ⟨dn, rfl⟩ : ∃ dn : Nat, d = dn := ⟨d.toNat, by omega⟩
        refine ⟨_, _, 97 + dn, rfl, rfl, (by decide +kernel), letter_at dn (by omega), _, k4 D _ n1 n2 e1, small1000 (by rw [List.length_map]; omega), cs ++ [97 + dn], ?_, by simp [l1], low_snoc a1 (by omega), B4.put n1 n2, ?_⟩
        · rw [upd_same, List.map_append]
          rfl
        · exact Kp.new (k3.trans k4) hD
      rintro H3 ⟨long, e1, l5, lows5, B3, k3⟩
      refine ⟨_, D, long.map (fun c => sL [c]), rfl, rfl, .inl (SqL.of (by rw [List.map_map]; exact e1)), letters_sum long (by omega), ?_⟩
      rw [glue_letters]
      have lf := k3 _ _ f1 f2 lf
      have lp := k3 _ _ p1 p2 lp
      have lm := k3 _ _ m1 m2 lm
      have kk := kk.trans k3
      clear e1 hD n1 n2 k3 BB
      try dsimp only [tNext]
      -- ends
      refine ⟨_, rfl, _, _, rfl, _, rfl, ?_, ?_, fun D hD => ?_⟩
      · split <;> omega
      · split <;> omega
      have en : (if (26 : Int) < (m : Int) then (26 : Int) else (m : Int)).toNat = min m 26 := by split <;> omega
      rw [en]
      refine lc_range (n := min m 26) (fun t H4 => H4 D = some (.lst (nmV ((List.range t).map (endL long first)))) ∧ Same H3 H4) ⟨upd_same, same_upd (Same.refl _) hD⟩ ?_ ?_
      · rintro t H4 ht ⟨e1, s4⟩
        have hmod : (first + 7 * t) % 26 < 26 := Nat.mod_lt _ (by decide)
        refine ⟨rfl, _, rfl, _, rfl, _, rfl, _, rfl, _, _, rfl, rfl, .inl (by omega), _, _, rfl, rfl, _, _, rfl, rfl, pos_lit (by decide), ?_⟩
        refine ⟨_, _, 97 + (first + 7 * t) % 26, rfl, rfl, (by decide +kernel), ?_, ?_⟩
        · rw [show ((first : Int) + 7 * (0 + (t : Int))) % 26 = (((first + 7 * t) % 26 : Nat) : Int) from by omega]
          exact letter_at _ hmod
        refine ⟨_, _, rfl, rfl, (by rw [sL_len, sizeLine_eq]; show _ + 1 ≤ _; omega), _, e1, small1000 (by rw [nmV_len, List.length_map, List.length_range]; omega), ?_, same_upd s4 hD⟩
        rw [upd_same, List.range_succ, List.map_append]
        unfold nmV
        rw [List.map_append]
        show some (HO.lst (_ ++ [V.str (sL long ++ sL [97 + (first + 7 * t) % 26])])) = _
        rw [sL_add]
        rfl
      rintro H4 ⟨le, s4⟩
      have lf := s4 _ _ lf
      have lp := s4 _ _ lp
      have lm := s4 _ _ lm
      have B4 := B3.same s4
      have kk : Kp b L0 H H4 := kk.trans fun a o _ _ e => s4 a o e
      clear s4 hD en B3
      try dsimp only [tNext]
      -- odd
      refine ⟨_, rfl, pm, rfl, ⟨_, SqL.of lm⟩, fun D2 hD2 => ?_⟩
      refine lc_list (K := K) (a := pm) (xs := nmV ws) (fun t H5 => H5 D2 = some (.lst (nmV ((ws.take t).filter (fun x => !((List.range m).map (fnd stem at_ first)).contains x)))) ∧ Same H4 H5) ⟨upd_same, same_upd (Same.refl _) hD2⟩ (fun t H5 _ ⟨_, s5⟩ => SqL.of (s5 _ _ lm)) ?_ ?_
      · rintro t x H5 hx ⟨e1, s5⟩
        obtain ⟨y, hy, rfl⟩ : ∃ y, ws[t]? = some y ∧ x = V.str (sL y) := by
          unfold nmV at hx
          rw [List.getElem?_map] at hx
          cases e : ws[t]? with
          | none => rw [e] at hx; cases hx
          | some z => rw [e] at hx; exact ⟨z, rfl, (Option.some.inj hx).symm⟩
        have tk : ws.take (t + 1) = ws.take t ++ [y] := by
          rw [List.take_add_one, hy]
          rfl
        refine ⟨rfl, _, rfl, _, rfl, pf, _, rfl, .inl (SqL.of (s5 _ _ lf)), rfl, flat_nm _, _, rfl, ?_⟩
        rw [inV_nm]
        have small : (nmV ((ws.take t).filter (fun x => !((List.range m).map (fnd stem at_ first)).contains x))).length < 1000 := by
          rw [nmV_len]
          have z1 := List.length_filter_le (fun x => !((List.range m).map (fnd stem at_ first)).contains x) (ws.take t)
          have z2 : (ws.take t).length ≤ 16 := by rw [List.length_take, hws.len]; omega
          omega
        refine ite2 (fun c0 => ?_) (fun c0 => ?_)
        · refine ⟨_, rfl, _, e1, small1000 (by omega), ?_, same_upd s5 hD2⟩
          rw [upd_same, tk, List.filter_append, nmV_snoc]
          have c1 : (!((List.range m).map (fnd stem at_ first)).contains y) = true := c0
          simp only [List.filter_cons, c1, if_true, List.filter_nil]
        · refine ⟨?_, s5⟩
          rw [tk, List.filter_append]
          have c1 : (!((List.range m).map (fnd stem at_ first)).contains y) = false := by simpa using c0
          simp only [List.filter_cons, c1, Bool.false_eq_true, if_false, List.filter_nil, List.append_nil]
          exact e1
      rintro H5 ⟨e1, s5⟩
      rw [show ws.take (nmV ws).length = ws from by rw [nmV_len]; exact List.take_of_length_le (Nat.le_refl _)] at e1
      have lf := s5 _ _ lf
      have lp := s5 _ _ lp
      have le := s5 _ _ le
      have B5 := B4.same s5
      have kk : Kp b L0 H H5 := kk.trans fun a o _ _ e => s5 a o e
      clear s5 hD2 lm B4
      generalize hod : ws.filter (fun x => !((List.range m).map (fnd stem at_ first)).contains x) = odd0 at e1
      refine ⟨_, rfl, D2, pf, _, _, rfl, rfl, e1, lf, ?_, fun po npo => ?_⟩
      · rw [nmV_len, nmV_len, List.length_map, List.length_range, ← hod, sizeLine_eq]
        have z1 := List.length_filter_le (fun x => !((List.range m).map (fnd stem at_ first)).contains x) ws
        have z2 := hws.len
        omega
      have lo : (upd H5 po (.lst (nmV odd0 ++ nmV ((List.range m).map (fnd stem at_ first))))) po = some (.lst (nmV (odd0 ++ (List.range m).map (fnd stem at_ first)))) := by
        rw [upd_same]
        unfold nmV
        rw [List.map_append]
      have s6 : Same H5 (upd H5 po (.lst (nmV odd0 ++ nmV ((List.range m).map (fnd stem at_ first))))) := same_upd (Same.refl _) npo
      have lf := s6 _ _ lf
      have lp := s6 _ _ lp
      have le := s6 _ _ le
      have B6 := B5.same s6
      have kk : Kp b L0 H (upd H5 po (.lst (nmV odd0 ++ nmV ((List.range m).map (fnd stem at_ first))))) := kk.trans fun a o _ _ e => s6 a o e
      generalize upd H5 po (.lst (nmV odd0 ++ nmV ((List.range m).map (fnd stem at_ first)))) = H6 at lo s6 lf lp le B6 kk ⊢
      clear s6 npo e1 B5
      try dsimp only [tNext]
      -- some
      refine ⟨_, rfl, _, rfl, _, rfl, _, rfl, (by show 2 ≤ sizeLine; decide), fun l2 nl2 => ?_⟩
      have s7 : Same H6 (upd H6 l2 (.lst [.ref D, .ref pf])) := same_upd (Same.refl _) nl2
      have ll2 : (upd H6 l2 (.lst [.ref D, .ref pf])) l2 = some (.lst [.ref D, .ref pf]) := upd_same
      have lf := s7 _ _ lf
      have lp := s7 _ _ lp
      have le := s7 _ _ le
      have lo := s7 _ _ lo
      have B7 := B6.same s7
      have kk : Kp b L0 H (upd H6 l2 (.lst [.ref D, .ref pf])) := kk.trans fun a o _ _ e => s7 a o e
      generalize upd H6 l2 (.lst [.ref D, .ref pf]) = H7 at ll2 s7 lf lp le lo B7 kk ⊢
      clear s7 nl2 B6
      have at2 : ∀ c : Bool, atI [V.ref D, V.ref pf] (if c = true then 1 else 0) = some (V.ref (if c = true then pf else D)) := fun c => by cases c <;> rfl
      refine ⟨_, rfl, _, _, rfl, rfl, .inr ⟨_, rfl, l2, _, _, _, rfl, rfl, SqL.of ll2, at2 _, ?_⟩⟩
      refine ⟨_, rfl, _, rfl, (by show 5 ≤ sizeLine; decide), fun ps nps => ?_⟩
      have s8 : Same H7 (upd H7 ps (.lst [.ref po, .ref pp, .ref (if decide ((26 : Int) < (m : Int)) = true then pf else D), .ref pf, .ref pf])) := same_upd (Same.refl _) nps
      have lps : (upd H7 ps (.lst [.ref po, .ref pp, .ref (if decide ((26 : Int) < (m : Int)) = true then pf else D), .ref pf, .ref pf])) ps = some (.lst [.ref po, .ref pp, .ref (if decide ((26 : Int) < (m : Int)) = true then pf else D), .ref pf, .ref pf]) := upd_same
      have lf := s8 _ _ lf
      have lp := s8 _ _ lp
      have le := s8 _ _ le
      have lo := s8 _ _ lo
      have B8 := B7.same s8
      have kk : Kp b L0 H (upd H7 ps (.lst [.ref po, .ref pp, .ref (if decide ((26 : Int) < (m : Int)) = true then pf else D), .ref pf, .ref pf])) := kk.trans fun a o _ _ e => s8 a o e
      generalize upd H7 ps (.lst [.ref po, .ref pp, .ref (if decide ((26 : Int) < (m : Int)) = true then pf else D), .ref pf, .ref pf]) = H8 at lps s8 lf lp le lo B8 kk ⊢
      clear s8 nps B7 ll2 at2
      try dsimp only [tNext]
      -- mixed(box, some[form][:many])
      have it : ∃ (la : Addr) (ls : List (List Nat)), atI [V.ref po, .ref pp, .ref (if decide ((26 : Int) < (m : Int)) = true then pf else D), .ref pf, .ref pf] form = some (.ref la) ∧ H8 la = some (.lst (nmV ls)) ∧ Nms (ls.take m) m := by
        have tkf : ((List.range m).map (fnd stem at_ first)).take m = (List.range m).map (fnd stem at_ first) := List.take_of_length_le (by simp)
        have fT : Nms (((List.range m).map (fnd stem at_ first)).take m) m := by rw [tkf]; exact fN
        rcases (by omega : form = 0 ∨ form = 1 ∨ form = 2 ∨ form = 3 ∨ form = 4) with rfl | rfl | rfl | rfl | rfl
        · refine ⟨po, _, rfl, lo, ?_⟩
          rw [← hod]
          exact odd_nms hws fN
        · exact ⟨pp, _, rfl, lp, pairs_nms m hm⟩
        · by_cases c : (26 : Int) < (m : Int)
          · refine ⟨pf, _, ?_, lf, fT⟩
            rw [decide_eq_true c]
            rfl
          · refine ⟨D, _, ?_, le, ?_⟩
            · rw [decide_eq_false c]
              rfl
            · rw [Nat.min_eq_left (by omega), List.take_of_length_le (by simp)]
              exact ends_nms l5 lows5 (by omega)
        · exact ⟨pf, _, rfl, lf, fT⟩
        · exact ⟨pf, _, rfl, lf, fT⟩
      obtain ⟨la, ls, ia, hla, nls⟩ := it
      refine ⟨_, rfl, _, rfl, _, rfl, ps, _, _, _, rfl, rfl, SqL.of lps, ia, _, rfl, _, rfl, la, _, rfl, SqL.of hla, fun p np => ?_⟩
      rw [cut_nm]
      have B9 := B8.new (o := .lst (nmV (ls.take m))) np
      refine ⟨b, L0, p, _, rfl, B9, .inl (SqL.of upd_same), (by rw [nmV_len, nls.len]; omega), fun r ys H9 nr perm er B10 k10 => ?_⟩
      obtain ⟨ns, rfl, pns⟩ := perm_nm perm
      have k9 := Kp.new2 (o := .lst (nmV (ls.take m))) kk np
      obtain ⟨r1, r2⟩ := B9.apart nr
      exact k r ns H9 (Kp.free k9 nr r1 r2) (nls.perm pns) er B10 (k9.trans k10)
end

end Tg

namespace Tg
open PySem L2 Ow
structure TxtH (mg : Str → Option Value) : Prop where
  b_tuple : mg "tuple" = none
  b_enumerate : mg "enumerate" = none
  b_list : mg "list" = none
  b_range : mg "range" = none
  b_isinstance : mg "isinstance" = none
theorem same_seqT {K : PySem.W.Frag} {H H' : Hp} {a : Addr} {xs : List V} (e : Same H H') (h : SqT K H a xs) : SqT K H' a xs := by
  rcases h with h | h
  · rcases h with h | ⟨o, h⟩
    · exact .inl (.inl (e _ _ h))
    · exact .inl (.inr ⟨o, e _ _ h⟩)
  · exact .inr h
/-- a row: pairs in a list or a tuple -/
def RowAt (K : PySem.W.Frag) (H : Hp) (a : Addr) (rs : List Pl) : Prop := (SqL K H a (rs.map plV) ∨ SqT K H a (rs.map plV)) ∧ rs.length ≤ 40 ∧ ∀ r ∈ rs, PlAt H r
def spShort (K : PySem.W.Frag) : Sp := fun vs H Q _ => ∃ a rs, vs = [.ref a] ∧ RowAt K H a rs ∧
  ∀ p H', H p = none → Same H H' → H' p = some (.tup ((lastOf rs).map plV)) → Q (.ref p) H'
abbrev hN : List Str := ["row", "at", "pull"]
theorem scShort : FnScope hN ["row"] (defScope sEned_) := ⟨rfl, rfl, rfl, by decide +kernel, rfl, by decide +kernel, by decide +kernel⟩
section
variable {P : Program} {w : World} {K : PySem.W.Frag} {mg : Str → Option Value} {base : Heap}
theorem drop_cons {rs : List Pl} {i : Nat} {r : Pl} (h : rs[i]? = some r) : rs.drop i = r :: rs.drop (i + 1) := by
  have hi : i < rs.length := (List.getElem?_eq_some_iff.mp h).1
  rw [List.drop_eq_getElem_cons hi, (List.getElem?_eq_some_iff.mp h).2]
theorem pl_at {rs : List Pl} {i : Nat} {x : V} (h : (rs.map plV)[i]? = some x) : ∃ r, rs[i]? = some r ∧ x = plV r := by
  rw [List.getElem?_map] at h
  cases e : rs[i]? with
  | none => rw [e] at h; cases h
  | some z => rw [e] at h; exact ⟨z, rfl, (Option.some.inj h).symm⟩
/-- where the pairs are so far -/
def ShI (H0 : Hp) (rs : List Pl) (D : Addr) (t : Nat) (H : Hp) : Prop := ∃ acc : List Pl, H D = some (.lst (acc.map plV)) ∧ acc ++ lastOf (rs.drop t) = lastOf rs ∧ Same H0 H
theorem lastOf_step {rs : List Pl} {t : Nat} {r : Pl} (h : rs[t]? = some r) : lastOf (rs.drop t) = if hasP (rs.drop (t + 1)) r.2 then lastOf (rs.drop (t + 1)) else r :: lastOf (rs.drop (t + 1)) := by
  rw [drop_cons h]
  rfl
theorem ok_short {f : Addr} {fd : FuncData} (F : Fun K "shortened" "shortened" sEned_ f fd) (T : TxtH mg) : FnOk P w K mg base CX0 1 f fd ["row"] (spShort K) := by
  refine F.ok scShort (fun vs H Q E h => ?_) (fun cdv A outer s H vs Q E hr h => ?_)
  · obtain ⟨a, rs, rfl, _⟩ := h
    rfl
  · obtain ⟨a, rs, rfl, ⟨hq, hl, hp⟩, k⟩ := h
    have nd := scShort.nd
    refine ⟨_, (pss_one (ps_ret (pe_callTy call_tuple_of (by rfl) T.b_tuple (by decide +kernel) (pa_cons (pe_lc (own := [("at", 1), ("pull", 2)]) (g := gTup K 2 (gCons (gName 1) (gCons (gName 2) gNil))) rfl nd (pi_enA (by rfl) T.b_enumerate (pa_cons (pv 0) pa_nil)) (blkOk_by (own := [("at", 1), ("pull", 2)]) (N := hN) (sc := defScope sEned_) (by decide +kernel)) (fun _ _ _ _ _ => (pg_tupK K (pgs_cons (pg_name (i := 1) nd rfl (.inl rfl)) (pgs_cons (pg_name (i := 2) nd rfl (.inl rfl)) pgs_nil)))) (fun _ _ _ _ _ => pts_one (pt_cmpR (op_notInAK K hr.units65) (pv 2) (pe_slice (slA K) (pv 0) (po_some (pe_op op_add (pv 1) pe_int)) po_none) rfl)) (fun _ _ _ _ _ => (pv 2))) pa_nil)))), ?_⟩
    have fin : ∀ D H1, H D = none → ShI H rs D (rs.map plV).length H1 → ∃ p ys, [V.ref D] = [.ref p] ∧ ((SqL K H1 p ys ∧ ∀ l, H1 l = none → Q (.ref l) (upd H1 l (.tup ys))) ∨ (SqT K H1 p ys ∧ Q (.ref p) H1)) := by
      rintro D H1 hD ⟨acc, e1, e2, s1⟩
      rw [List.length_map, List.drop_of_length_le (Nat.le_refl _)] at e2
      have e3 : acc = lastOf rs := by
        have : acc ++ lastOf [] = acc := List.append_nil _
        rw [← this]
        exact e2
      subst e3
      exact ⟨D, _, rfl, .inl ⟨SqL.of e1, fun p np => k p _ (s1.free np) (same_upd s1 (s1.free np)) upd_same⟩⟩
    rcases hq with hq | hq
    · refine ⟨_, rfl, a, _, rfl, .inl ⟨hq, fun D hD => ?_⟩⟩
      refine lc_it walk_enum (ShI H rs D) ⟨[], upd_same, rfl, same_upd (Same.refl _) hD⟩ (fun i H1 _ ⟨_, _, _, s1⟩ => s1.seq hq) ?_ (fun H1 h1 => fin D H1 hD h1)
      rintro t x H1 H2 ht ⟨acc, eD, eacc, s1⟩ ⟨T0, x0, y0, rfl, nT, rfl, ex, ey⟩
      obtain rfl : V.int (t : Nat) = x0 := Option.some.inj ex
      obtain ⟨r, hr1, rfl⟩ := pl_at ey
      have tD : D ≠ T0 := fun z => by rw [z, nT] at eD; cases eD
      have s2 : Same H (upd H1 T0 (.tup [.int (t : Nat), plV r])) := same_upd s1 (s1.free nT)
      have eD2 : (upd H1 T0 (.tup [.int (t : Nat), plV r])) D = some (.lst (acc.map plV)) := by rw [upd_ne tD]; exact eD
      have eT : (upd H1 T0 (.tup [.int (t : Nat), plV r])) T0 = some (.tup [.int (t : Nat), plV r]) := upd_same
      generalize upd H1 T0 (.tup [.int (t : Nat), plV r]) = G at s2 eD2 eT ⊢
      have ht2 : t < (rs.map plV).length := ht
      have cut : cutV (rs.map plV) (some ((t : Int) + 1)) none = (rs.drop (t + 1)).map plV := by
        rw [cut_from (i := t) (by omega), List.map_drop]
      have hd : ∀ z ∈ rs.drop (t + 1), z ∈ rs := fun z hz => List.mem_of_mem_drop hz
      refine ⟨T0, _, rfl, SqT.of eT, rfl, _, _, rfl, _, _, rfl, rfl, rfl, ?_⟩
      refine ⟨_, rfl, _, rfl, _, rfl, _, _, rfl, rfl, _, rfl, .inl ⟨a, _, rfl, s2.seq hq, fun p np => ?_⟩⟩
      rw [cut]
      have s3 : Same H (upd G p (.lst ((rs.drop (t + 1)).map plV))) := same_upd s2 (s2.free np)
      have eD3 : (upd G p (.lst ((rs.drop (t + 1)).map plV))) D = some (.lst (acc.map plV)) := by rw [upd_ne (ne_of_none eD2 np)]; exact eD2
      have ep : (upd G p (.lst ((rs.drop (t + 1)).map plV))) p = some (.lst ((rs.drop (t + 1)).map plV)) := upd_same
      generalize upd G p (.lst ((rs.drop (t + 1)).map plV)) = G3 at s3 eD3 ep ⊢
      have hr3 : PlAt G3 r := (hp r (List.mem_of_getElem? hr1)).same s3
      have hd3 : ∀ z ∈ rs.drop (t + 1), PlAt G3 z := fun z hz => (hp z (hd z hz)).same s3
      refine .inl ⟨pD r.2, plsD (rs.drop (t + 1)), hr3.dp, .lst (SqL.of ep) (pls_dp hd3), pls_sh1 hr3, pls_shL hd3, _, rfl, ?_⟩
      rw [plsD_any]
      have st := lastOf_step hr1
      
      cases c : hasP (rs.drop (t + 1)) r.2
      · rw [c] at st
        refine ⟨_, rfl, _, eD3, small1000 (by
          have z1 := congrArg List.length eacc
          have z2 := lastOf_len rs
          rw [List.length_append] at z1
          rw [List.length_map]
          omega), acc ++ [r], ?_, ?_, same_upd s3 hD⟩
        · rw [upd_same, List.map_append]
          rfl
        · rw [List.append_assoc]
          show acc ++ (r :: lastOf (rs.drop (t + 1))) = _
          rw [← eacc, st]
          rfl
      · rw [c] at st
        refine ⟨acc, eD3, ?_, s3⟩
        rw [← eacc, st]
        rfl
    · refine ⟨_, rfl, a, _, rfl, .inr ⟨hq, fun D hD => ?_⟩⟩
      refine lc_it walk_enT (ShI H rs D) ⟨[], upd_same, rfl, same_upd (Same.refl _) hD⟩ (fun i H1 _ ⟨_, _, _, s1⟩ => same_seqT s1 hq) ?_ (fun H1 h1 => fin D H1 hD h1)
      rintro t x H1 H2 ht ⟨acc, eD, eacc, s1⟩ ⟨T0, x0, y0, rfl, nT, rfl, ex, ey⟩
      obtain rfl : V.int (t : Nat) = x0 := Option.some.inj ex
      obtain ⟨r, hr1, rfl⟩ := pl_at ey
      have tD : D ≠ T0 := fun z => by rw [z, nT] at eD; cases eD
      have s2 : Same H (upd H1 T0 (.tup [.int (t : Nat), plV r])) := same_upd s1 (s1.free nT)
      have eD2 : (upd H1 T0 (.tup [.int (t : Nat), plV r])) D = some (.lst (acc.map plV)) := by rw [upd_ne tD]; exact eD
      have eT : (upd H1 T0 (.tup [.int (t : Nat), plV r])) T0 = some (.tup [.int (t : Nat), plV r]) := upd_same
      generalize upd H1 T0 (.tup [.int (t : Nat), plV r]) = G at s2 eD2 eT ⊢
      have ht2 : t < (rs.map plV).length := ht
      have cut : cutV (rs.map plV) (some ((t : Int) + 1)) none = (rs.drop (t + 1)).map plV := by
        rw [cut_from (i := t) (by omega), List.map_drop]
      have hd : ∀ z ∈ rs.drop (t + 1), z ∈ rs := fun z hz => List.mem_of_mem_drop hz
      refine ⟨T0, _, rfl, SqT.of eT, rfl, _, _, rfl, _, _, rfl, rfl, rfl, ?_⟩
      refine ⟨_, rfl, _, rfl, _, rfl, _, _, rfl, rfl, _, rfl, .inr ⟨a, _, rfl, same_seqT s2 hq, ?_, fun p np => ?_⟩⟩
      · exact not_whole (i := t) (by omega) ht2
      rw [cut]
      have s3 : Same H (upd G p (.tup ((rs.drop (t + 1)).map plV))) := same_upd s2 (s2.free np)
      have eD3 : (upd G p (.tup ((rs.drop (t + 1)).map plV))) D = some (.lst (acc.map plV)) := by rw [upd_ne (ne_of_none eD2 np)]; exact eD2
      have ep : (upd G p (.tup ((rs.drop (t + 1)).map plV))) p = some (.tup ((rs.drop (t + 1)).map plV)) := upd_same
      generalize upd G p (.tup ((rs.drop (t + 1)).map plV)) = G3 at s3 eD3 ep ⊢
      have hr3 : PlAt G3 r := (hp r (List.mem_of_getElem? hr1)).same s3
      have hd3 : ∀ z ∈ rs.drop (t + 1), PlAt G3 z := fun z hz => (hp z (hd z hz)).same s3
      refine .inr ⟨pD r.2, plsD (rs.drop (t + 1)), hr3.dp, .tup (SqT.of ep) (pls_dp hd3), pls_sh1 hr3, pls_shT hd3, _, rfl, ?_⟩
      rw [plsD_any]
      have st := lastOf_step hr1
      show if (!hasP (rs.drop (t + 1)) r.2) = true then _ else _
      cases c : hasP (rs.drop (t + 1)) r.2
      · rw [c] at st
        refine ⟨_, rfl, _, eD3, small1000 (by
          have z1 := congrArg List.length eacc
          have z2 := lastOf_len rs
          rw [List.length_append] at z1
          rw [List.length_map]
          omega), acc ++ [r], ?_, ?_, same_upd s3 hD⟩
        · rw [upd_same, List.map_append]
          rfl
        · rw [List.append_assoc]
          show acc ++ (r :: lastOf (rs.drop (t + 1))) = _
          rw [← eacc, st]
          rfl
      · rw [c] at st
        refine ⟨acc, eD3, ?_, s3⟩
        rw [← eacc, st]
        rfl
end
end Tg

namespace Tg
open PySem L2 Ow
def spDue (K : PySem.W.Frag) : Sp := fun vs H Q _ => ∃ a rs, vs = [.ref a] ∧ RowAt K H a rs ∧
  ∀ p H', H p = none → Same H H' → H' p = some (.tup ((lastOf rs).map plV)) → Q (.ref p) H'
theorem scDue : FnScope ["_law_row", "_law_found", "_law_pull"] ["_law_row"] (defScope sDue_) := ⟨rfl, rfl, rfl, by decide +kernel, rfl, by decide +kernel, by decide +kernel⟩
theorem rev_at {rs : List Pl} {i : Nat} {x : V} (h : ((rs.map plV).reverse)[i]? = some x) : ∃ r, i < rs.length ∧ rs[rs.length - 1 - i]? = some r ∧ x = plV r := by
  have hi : i < ((rs.map plV).reverse).length := (List.getElem?_eq_some_iff.mp h).1
  rw [List.length_reverse, List.length_map] at hi
  rw [List.getElem?_reverse (by rw [List.length_map]; exact hi), List.length_map] at h
  obtain ⟨r, e1, e2⟩ := pl_at h
  exact ⟨r, hi, e1, e2⟩
section
variable {P : Program} {w : World} {K : PySem.W.Frag} {mg : Str → Option Value} {base : Heap}
theorem ok_due {f : Addr} {fd : FuncData} (F : Fun K "_law_due" "_law_due" sDue_ f fd) (T : TxtH mg) : FnOk P w K mg base CX0 1 f fd ["_law_row"] (spDue K) := by
  refine F.ok scDue (fun vs H Q E h => ?_) (fun cdv A outer s H vs Q E hr h => ?_)
  · obtain ⟨a, rs, rfl, _⟩ := h
    rfl
  · obtain ⟨a, rs, rfl, ⟨hq, hl, hp⟩, k⟩ := h
    have nd := scDue.nd
    refine ⟨_, (pss_cons (ps_set (i := 1) nd rfl (.inl rfl) (pe_lst pa_nil))
      (pss_cons (ps_for PassesOwn.never rfl (pi_list (pe_revL (pe_callTy call_list_of (by rfl) T.b_list (by decide +kernel) (pa_cons (pv 0) pa_nil)))) (pg_name (i := 2) nd rfl (.inl rfl))
        (pss_one (ps_if (pt_cmpR (op_notInD hr.units65) (pv 2) (pv 1) rfl)
            (pss_one (ps_expr (pe_bm PySem.F.plainAttrs_list PySem.F.slot_list_append PySem.F.type_list_append mt_append (pv 1) (pa_cons (pv 2) pa_nil))))
            pss_nil)))
      (pss_one (ps_ret (pe_callTy call_tuple_of (by rfl) T.b_tuple (by decide +kernel) (pa_cons (pe_revL (pv 1)) pa_nil)))))), ?_⟩
    refine ⟨(by show 0 ≤ sizeLine; decide), fun pf npf => ?_⟩
    have s1 : Same H (upd H pf (.lst [])) := same_upd (Same.refl _) npf
    have lf : (upd H pf (.lst [])) pf = some (.lst (([] : List Pl).map plV)) := upd_same
    generalize upd H pf (.lst []) = H1 at s1 lf ⊢
    try dsimp only [tNext]
    have hq1 : SqL K H1 a (rs.map plV) ∨ SqT K H1 a (rs.map plV) := hq.imp s1.seq (same_seqT s1)
    refine ⟨_, rfl, a, _, rfl, hq1, fun l nl => ?_⟩
    refine ⟨l, _, rfl, SqL.of upd_same, fun p np => ?_⟩
    have nlf : pf ≠ l := fun z => by rw [← z, lf] at nl; cases nl
    have s2 : Same H1 (upd H1 l (.lst (rs.map plV))) := same_upd (Same.refl _) nl
    have s3 : Same H1 (upd (upd H1 l (.lst (rs.map plV))) p (.lst (rs.map plV).reverse)) := same_upd s2 (s2.free np)
    have lf3 := s3 _ _ lf
    have lp : (upd (upd H1 l (.lst (rs.map plV))) p (.lst (rs.map plV).reverse)) p = some (.lst (rs.map plV).reverse) := upd_same
    have sH := s1.trans s3
    generalize upd (upd H1 l (.lst (rs.map plV))) p (.lst (rs.map plV).reverse) = H2 at s3 lf3 lp sH ⊢
    have npf2 : pf ≠ p := fun z => by rw [← z] at np; rw [s2 _ _ lf] at np; cases np
    refine ⟨p, rfl, ⟨_, SqL.of lp⟩, ?_⟩
    refine for_list (K := K) (a := p) (xs := (rs.map plV).reverse) (fun i σ G => ∃ (v : Option V) (fs : List Pl), σ = [some (.ref a), some (.ref pf), v] ∧ G pf = some (.lst (fs.map plV)) ∧ G p = some (.lst (rs.map plV).reverse) ∧ fs.reverse = lastOf (rs.drop (rs.length - i)) ∧ Same H G)
      ⟨_, [], rfl, lf3, lp, ?_, sH⟩ (fun i σ G _ ⟨_, _, _, _, q, _⟩ => SqL.of q) ?_ ?_
    · rw [Nat.sub_zero, List.drop_of_length_le (Nat.le_refl _)]
      rfl
    · rintro i x σ G hx ⟨v, fs, rfl, ef, ep, efs, sG⟩
      obtain ⟨r, hi, er, rfl⟩ := rev_at hx
      have hd : ∀ z ∈ fs, z ∈ rs := fun z hz => List.mem_of_mem_drop (lastOf_mem (by rw [← efs]; exact List.mem_reverse.mpr hz))
      have hr3 : PlAt G r := (hp r (List.mem_of_getElem? er)).same sG
      have hd3 : ∀ z ∈ fs, PlAt G z := fun z hz => (hp z (hd z hz)).same sG
      have lfs : fs.length ≤ rs.length := by
        have z1 := congrArg List.length efs
        have z2 := lastOf_len (rs.drop (rs.length - i))
        rw [List.length_reverse] at z1
        rw [List.length_drop] at z2
        omega
      refine ⟨_, rfl, _, rfl, pD r.2, plsD fs, hr3.dp, .lst (SqL.of ef) (pls_dp hd3), pls_sh1 hr3, pls_shL hd3, _, rfl, ?_⟩
      rw [plsD_any]
      have eN : rs.length - i = (rs.length - 1 - i) + 1 := by omega
      have st := lastOf_step er
      rw [← eN] at st
      have hh : hasP fs r.2 = hasP (rs.drop (rs.length - i)) r.2 := by
        rw [← lastOf_has (rs.drop (rs.length - i)), ← efs]
        unfold hasP
        rw [List.any_reverse]
      rw [← hh] at st
      have eN2 : rs.length - (i + 1) = rs.length - 1 - i := by omega
      cases c : hasP fs r.2
      · rw [c] at st
        refine iteT ?_
        refine ⟨_, rfl, .inl ⟨rfl, _, SqL.of ef⟩, _, rfl, pf, _, _, rfl, rfl, ef, small1000 (by rw [List.length_map]; omega), ?_⟩
        refine ⟨_, fs ++ [r], rfl, ?_, by rw [upd_ne npf2.symm]; exact ep, ?_, ?_⟩
        · rw [upd_same, List.map_append]
          rfl
        · rw [eN2, st, List.reverse_append]
          show r :: fs.reverse = _
          rw [efs]
          rfl
        · intro b o e
          have : b ≠ pf := fun z => by
            rw [z, npf] at e
            cases e
          rw [upd_ne this]
          exact sG _ _ e
      · rw [c] at st
        refine iteF ?_
        refine ⟨_, fs, rfl, ef, ep, ?_, sG⟩
        rw [eN2, st, efs]
        rfl
    · rintro σ G ⟨v, fs, rfl, ef, ep, efs, sG⟩
      rw [List.length_reverse, List.length_map, Nat.sub_self, List.drop_zero] at efs
      refine ⟨_, rfl, pf, _, rfl, SqL.of ef, fun q nq => ?_⟩
      have s4 : Same H (upd G q (.lst (fs.map plV).reverse)) := same_upd sG (sG.free nq)
      refine ⟨q, _, rfl, .inl ⟨SqL.of upd_same, fun t nt => ?_⟩⟩
      refine k t _ (s4.free nt) (same_upd s4 (s4.free nt)) ?_
      rw [upd_same, ← List.map_reverse, efs]
end
end Tg

namespace Tg
open PySem L2 Ow
def spLaw (K : PySem.W.Frag) : Sp := fun vs H Q _ => ∃ (a : Addr) (ns : List Int), vs = [.ref a] ∧ SqL K H a (ns.map V.int) ∧ ns.length ≤ 63 ∧ ∀ H', Q (.bl true) H'
abbrev lawN : List Str := ["_law_script", "_law_base", "_law_box_here", "_law_names_here", "_law_many", "_law_row", "_law_turn", "_law_kept", "_law_form", "_law_handed", "_law_found"]
theorem scLaw : FnScope lawN ["_law_script"] (defScope sLaw) := ⟨rfl, rfl, rfl, by decide +kernel, rfl, by decide +kernel, by decide +kernel⟩
structure Cs (P : Program) (w : World) (K : PySem.W.Frag) (mg : Str → Option Value) (base : Heap) : Prop where
  T : TxtH mg
  cBox : Cal P w K mg base 1 "_law_box" ["_law_script", "_law_base"] (spBox K)
  cTake : Cal P w K mg base 1 "_law_take" ["_law_box_here", "_law_many"] spTake
  cMixed : Cal P w K mg base 2 "_law_mixed" ["_law_box_here", "_law_items"] (spMixed K)
  cNames : Cal P w K mg base 3 "_law_names" ["_law_box_here", "_law_many"] spNames
  cShort : Cal P w K mg base 1 "shortened" ["row"] (spShort K)
  cDue : Cal P w K mg base 1 "_law_due" ["_law_row"] (spDue K)
/-- texts that may stand in data -/
def OkT (v : V) : Prop := ∃ x : Str, v = .str x ∧ PyData.strOk x = true
theorem nm_ok {n : List Nat} (h : isNm n = true) : PyData.strOk (sL n) = true := by
  unfold isNm at h
  simp only [Bool.and_eq_true] at h
  have h2 := List.all_eq_true.mp h.2
  show (Array.all _ _) = true
  rw [Array.all_eq_true']
  intro c hc
  have hc2 : c ∈ n := by simpa [sL] using hc
  have h3 := h2 c hc2
  simp at h3
  have : c < 1114112 := by omega
  simpa using this
theorem eqv_rows {rs : List Pl} : PyData.eqv (.tuple (plsD rs)) (.tuple (plsD rs)) = true := eqvAll_refl rs
theorem eqv_rowsL {rs : List Pl} : PyData.eqv (.list (plsD rs)) (.list (plsD rs)) = true := eqvAll_refl rs
section
variable {P : Program} {w : World} {K : PySem.W.Frag} {mg : Str → Option Value} {base : Heap}
theorem ok_law {f : Addr} {fd : FuncData} (F : Fun K "law" "law" sLaw f fd) (c : Cs P w K mg base) : FnOk P w K mg base CX0 4 f fd ["_law_script"] (spLaw K) := by
  refine F.ok scLaw (fun vs H Q E h => ?_) (fun cdv A outer s H vs Q E hr h => ?_)
  · obtain ⟨a, ns, rfl, _⟩ := h
    rfl
  · obtain ⟨a, ns, rfl, hS, hlen, k⟩ := h
    obtain ⟨T, cBox, cTake, cMixed, cNames, cShort, cDue⟩ := c
    have nd := scLaw.nd
    refine ⟨_, (pss_cons (ps_for PassesOwn.never rfl (pi_range1 (by rfl) T.b_range (pa_cons pe_int pa_nil)) (pg_name (i := 1) nd rfl (.inl rfl))
        (pss_cons (ps_set (i := 2) nd rfl (.inl rfl) (pe_cal cBox (hr.mono (by decide)) (by rfl) (pa_cons (pv 0) (pa_cons (pv 1) pa_nil))))
          (pss_cons (ps_set (i := 3) nd rfl (.inl rfl) (pe_op op_cat (pe_cal cNames (hr.mono (by decide)) (by rfl) (pa_cons (pv 2) (pa_cons pe_int pa_nil))) (pe_lst (pa_cons pe_str (pa_cons pe_str (pa_cons pe_str (pa_cons pe_str (pa_cons pe_str (pa_cons pe_str (pa_cons pe_str (pa_cons pe_str pa_nil)))))))))))
          (pss_cons (ps_par (i := 3) (j := 4) (by rfl) nd rfl rfl (by decide) rfl rfl (pa_cons (pe_cal cMixed (hr.mono (by decide)) (by rfl) (pa_cons (pv 2) (pa_cons (pv 3) pa_nil))) (pa_cons (pe_op op_add pe_int (pe_cal cTake (hr.mono (by decide)) (by rfl) (pa_cons (pv 2) (pa_cons pe_int pa_nil)))) pa_nil)) (by rfl))
          (pss_cons (ps_set (i := 5) nd rfl (.inl rfl) (pe_lst pa_nil))
          (pss_cons (ps_for PassesOwn.never rfl (pi_range1 (by rfl) T.b_range (pa_cons (pe_cal cTake (hr.mono (by decide)) (by rfl) (pa_cons (pv 2) (pa_cons pe_int pa_nil))) pa_nil)) (pg_name (i := 6) nd rfl (.inl rfl))
            (pss_one (ps_expr (pe_bm PySem.F.plainAttrs_list PySem.F.slot_list_append PySem.F.type_list_append mt_append (pv 5) (pa_cons (pe_tup (pa_cons (pe_ix ix_list (pv 3) (pe_cal cTake (hr.mono (by decide)) (by rfl) (pa_cons (pv 2) (pa_cons (pv 4) pa_nil))) (fun _ _ => rfl)) (pa_cons (pe_ix ix_list (pv 3) (pe_cal cTake (hr.mono (by decide)) (by rfl) (pa_cons (pv 2) (pa_cons (pv 4) pa_nil))) (fun _ _ => rfl)) pa_nil))) pa_nil)))))
          (pss_cons (ps_par (i := 7) (j := 8) (by rfl) nd rfl rfl (by decide) rfl rfl (pa_cons (pe_callTy call_list_of (by rfl) T.b_list (by decide +kernel) (pa_cons (pv 5) pa_nil)) (pa_cons (pe_cal cTake (hr.mono (by decide)) (by rfl) (pa_cons (pv 2) (pa_cons pe_int pa_nil))) pa_nil)) (by rfl))
          (pss_cons (ps_set (i := 9) nd rfl (.inl rfl) (pe_ix ix_list (pe_lst (pa_cons (pv 5) (pa_cons (pe_callTy call_tuple_of (by rfl) T.b_tuple (by decide +kernel) (pa_cons (pv 5) pa_nil)) pa_nil))) (pv 8) (fun _ _ => rfl)))
          (pss_cons (ps_set (i := 10) nd rfl (.inl rfl) (pe_cal cShort (hr.mono (by decide)) (by rfl) (pa_cons (pv 9) pa_nil)))
          (pss_cons (ps_if (PW.pt (pw_or (pt_not (pt_val (pe_callB call_isi (by rfl) T.b_isinstance (by decide +kernel) (pa_cons (pv 10) (pa_cons (pe_bltn (v := .ty "tuple") (by rfl) T.b_tuple (by decide +kernel) rfl) pa_nil))))) (pw_or (pt_cmpR (op_neD hr.units) (pv 10) (pe_cal cDue (hr.mono (by decide)) (by rfl) (pa_cons (pv 7) pa_nil)) (nomark _)) (pw_or1 (pt_cmpR (op_neD hr.units) (pe_callTy call_list_of (by rfl) T.b_list (by decide +kernel) (pa_cons (pv 9) pa_nil)) (pv 7) (nomark _))))))
            (pss_one (ps_ret pe_bl))
            pss_nil)
          (pss_one (ps_if (PW.pt (pw_or (pt_cmpR (op_neD hr.units) (pe_cal cShort (hr.mono (by decide)) (by rfl) (pa_cons (pv 10) pa_nil)) (pv 10) (nomark _)) (pw_or (pt_cmpR (op_neD hr.units) (pe_cal cShort (hr.mono (by decide)) (by rfl) (pa_cons (pe_callTy call_list_of (by rfl) T.b_list (by decide +kernel) (pa_cons (pv 10) pa_nil)) pa_nil)) (pv 10) (nomark _)) (pw_or1 (pt_cmpR (op_neD hr.units) (pe_cal cShort (hr.mono (by decide)) (by rfl) (pa_cons (pv 9) pa_nil)) (pv 10) (nomark _))))))
            (pss_one (ps_ret pe_bl))
            pss_nil))))))))))))
      (pss_one (ps_ret pe_bl))), ?_⟩
    refine ⟨_, rfl, (by decide), (by decide), for_range (n := 4) (fun i σ H1 => ∃ v1 v2 v3 v4 v5 v6 v7 v8 v9 v10 : Option V, σ = [some (.ref a), v1, v2, v3, v4, v5, v6, v7, v8, v9, v10] ∧ Same H H1)
      ⟨_, _, _, _, _, _, _, _, _, _, rfl, Same.refl H⟩ ?_ ?_⟩
    · rintro i σ H1 hi ⟨v1, v2, v3, v4, v5, v6, v7, v8, v9, v10, rfl, s1⟩
      refine ⟨_, rfl, _, rfl, a, ns, _, rfl, s1.seq hS, hlen, by omega, by omega, fun b Lb H2 nb nL s2 B2 => ?_⟩
      have s02 : Same H H2 := s1.trans s2
      have nb0 := s1.free nb
      have nL0 := s1.free nL
      try dsimp only [tNext]
      -- names
      refine ⟨_, rfl, b, Lb, 8, rfl, by decide, B2, fun pn nn H3 npn hN lpn B3 k3 => ?_⟩
      have s3 : Same H H3 := s02.kp nb0 nL0 k3
      refine ⟨(by show 8 ≤ sizeLine; decide), fun q nq => ?_⟩
      have s4 : Same H3 (upd H3 q (.lst [.str "", .str "A", .str "a b", .str "b", .str "a", .str "b a", .str "aaaaaab", .str "aaaaaac"])) := same_upd (Same.refl _) nq
      have lq : (upd H3 q (.lst [.str "", .str "A", .str "a b", .str "b", .str "a", .str "b a", .str "aaaaaab", .str "aaaaaac"])) q = some (.lst [.str "", .str "A", .str "a b", .str "b", .str "a", .str "b a", .str "aaaaaab", .str "aaaaaac"]) := upd_same
      have lpn4 := s4 _ _ lpn
      have B4 := B3.same s4
      have sH4 := s3.trans s4
      generalize upd H3 q (.lst [.str "", .str "A", .str "a b", .str "b", .str "a", .str "b a", .str "aaaaaab", .str "aaaaaac"]) = H4 at s4 lq lpn4 B4 sH4 ⊢
      have all0 : ∀ y ∈ nmV nn ++ [.str "", .str "A", .str "a b", .str "b", .str "a", .str "b a", .str "aaaaaab", .str "aaaaaac"], OkT y := by
        intro y hy
        rcases List.mem_append.mp hy with h | h
        · obtain ⟨n, hn, rfl⟩ := List.mem_map.mp h
          exact ⟨_, rfl, nm_ok (hN.ok n hn)⟩
        · simp only [List.mem_cons, List.not_mem_nil, or_false] at h
          rcases h with rfl | rfl | rfl | rfl | rfl | rfl | rfl | rfl <;> exact ⟨_, rfl, by decide +kernel⟩
      have len0 : (nmV nn ++ [V.str "", .str "A", .str "a b", .str "b", .str "a", .str "b a", .str "aaaaaab", .str "aaaaaac"]).length = 16 := by
        rw [List.length_append, nmV_len, hN.len]
        rfl
      refine ⟨pn, q, _, _, rfl, rfl, lpn4, lq, (by rw [nmV_len, hN.len]; show 8 + 8 ≤ sizeLine; decide), fun pc npc => ?_⟩
      generalize nmV nn ++ [V.str "", .str "A", .str "a b", .str "b", .str "a", .str "b a", .str "aaaaaab", .str "aaaaaac"] = xs at all0 len0 ⊢
      have s5 : Same H4 (upd H4 pc (.lst xs)) := same_upd (Same.refl _) npc
      have lpc : (upd H4 pc (.lst xs)) pc = some (.lst xs) := upd_same
      have B5 := B4.same s5
      have sH5 := sH4.trans s5
      generalize upd H4 pc (.lst xs) = H5 at lpc B5 sH5 ⊢
      clear s5 npc s4 lq lpn4 B4 sH4 lpn B3 k3 s3 nq npn
      try dsimp only [tNext]
      -- mixed, many
      refine ⟨_, rfl, _, rfl, b, Lb, pc, xs, rfl, B5, .inl (SqL.of lpc), by omega, fun pm ys H6 npm pmx lpm B6 k6 => ?_⟩
      have sH6 := sH5.kp nb0 nL0 k6
      obtain ⟨mb, mL⟩ := B5.apart npm
      have all1 : ∀ y ∈ ys, OkT y := fun y hy => all0 y (pmx.mem_iff.mp hy)
      have len1 : ys.length = 16 := by rw [pmx.length_eq]; exact len0
      refine ⟨_, rfl, b, Lb, 16, rfl, by decide, by decide +kernel, B6, fun d7 H7 a7 c7 B7 k7 => ?_⟩
      have sH7 := sH6.kp nb0 nL0 k7
      have lpm7 := k7 _ _ mb mL lpm
      refine ⟨_, _, rfl, rfl, ?_⟩
      refine ⟨_, _, rfl, ?_⟩
      clear all0 len0 lpc B5 sH5 k6 sH6 B6 k7 lpm
      try dsimp only [tNext]
      -- row
      refine ⟨(by show 0 ≤ sizeLine; decide), fun pr npr => ?_⟩
      have nprH : H pr = none := sH7.free npr
      obtain ⟨rb, rL⟩ := B7.apart npr
      have mr : pm ≠ pr := fun z => by rw [z, npr] at lpm7; cases lpm7
      have s8 : Same H7 (upd H7 pr (.lst [])) := same_upd (Same.refl _) npr
      have lr8 : (upd H7 pr (.lst [])) pr = some (.lst (([] : List Pl).map plV)) := upd_same
      have lpm8 := s8 _ _ lpm7
      have B8 := B7.same s8
      have sH8 := sH7.trans s8
      generalize upd H7 pr (.lst []) = H8 at lr8 lpm8 B8 sH8 ⊢
      clear s8 npr lpm7 B7 sH7
      try dsimp only [tNext]
      refine ⟨_, rfl, b, Lb, 41, rfl, by decide, by decide +kernel, B8, fun d9 H9 a9 c9 B9 k9 => ?_⟩
      have sH9 := sH8.kp nb0 nL0 k9
      have lpm9 := k9 _ _ mb mL lpm8
      have lr9 := k9 _ _ rb rL lr8
      refine ⟨_, rfl, by omega, by omega, ?_⟩
      refine for_range (n := d9.toNat) (fun i2 σ G => ∃ (u6 u7 u8 u9 u10 : Option V) (rs : List Pl), σ = [some (.ref a), some (.int (0 + i)), some (.ref b), some (.ref pm), some (.int (1 + d7)), some (.ref pr), u6, u7, u8, u9, u10] ∧ G pr = some (.lst (rs.map plV)) ∧ rs.length = i2 ∧ (∀ r ∈ rs, PlAt G r) ∧ G pm = some (.lst ys) ∧ Box b Lb G ∧ Same H G)
        ⟨_, _, _, _, _, [], rfl, lr9, rfl, (fun _ h => by cases h), lpm9, B9, sH9⟩ ?_ ?_
      · rintro i2 σ G hi2 ⟨u6, u7, u8, u9, u10, rs, rfl, lr, lrs, ra, lm, BG, sG⟩
        have pick : ∀ d : Int, 0 ≤ d → d < 1 + d7 → ∃ x : Str, atI ys d = some (.str x) ∧ PyData.strOk x = true := by
          intro d h0 h1
          obtain ⟨dn, rfl⟩ : ∃ n : Nat, d = n := ⟨d.toNat, by omega⟩
          have hy : dn < ys.length := by omega
          obtain ⟨x, ex, ox⟩ := all1 _ (List.getElem_mem hy)
          exact ⟨x, by rw [atI_nat (List.getElem?_eq_getElem hy), ex], ox⟩
        refine ⟨_, rfl, .inl ⟨rfl, _, SqL.of lr⟩, ?_⟩
        refine ⟨_, rfl, _, rfl, _, rfl, b, Lb, 1 + d7, rfl, by omega, log_small (by omega) (by omega), BG, fun d1 G1 a1 c1 B1 k1 => ?_⟩
        obtain ⟨x1, e1, o1⟩ := pick d1 a1 c1
        have lm1 := k1 _ _ mb mL lm
        refine ⟨pm, _, _, _, rfl, rfl, SqL.of lm1, e1, ?_⟩
        refine ⟨_, rfl, _, rfl, _, rfl, b, Lb, 1 + d7, rfl, by omega, log_small (by omega) (by omega), B1, fun d2 G2 a2 c2 B2 k2 => ?_⟩
        obtain ⟨x2, e2, o2⟩ := pick d2 a2 c2
        have lm2 := k2 _ _ mb mL lm1
        refine ⟨pm, _, _, _, rfl, rfl, SqL.of lm2, e2, ?_⟩
        have sG2 := (sG.kp nb0 nL0 k1).kp nb0 nL0 k2
        have lr2 := k2 _ _ rb rL (k1 _ _ rb rL lr)
        have apt : ∀ r ∈ rs, r.1 ≠ b ∧ r.1 ≠ Lb := fun r h => by
          obtain ⟨gs, now, seed, turn, Bx⟩ := BG
          exact ⟨ne_of (ra r h).at_ Bx.dc (by intro z; cases z), ne_of (ra r h).at_ Bx.ls (by intro z; cases z)⟩
        have ra2 : ∀ r ∈ rs, PlAt G2 r := fun r h => ⟨k2 _ _ (apt r h).1 (apt r h).2 (k1 _ _ (apt r h).1 (apt r h).2 (ra r h).at_), (ra r h).o1, (ra r h).o2⟩
        refine ⟨(by show 2 ≤ sizeLine; decide), fun t nt => ?_⟩
        have s3 : Same G2 (upd G2 t (.tup [.str x1, .str x2])) := same_upd (Same.refl _) nt
        have lt : (upd G2 t (.tup [.str x1, .str x2])) t = some (.tup [.str x1, .str x2]) := upd_same
        have sG3 := sG2.trans s3
        have lr3 := s3 _ _ lr2
        have lm3 := s3 _ _ lm2
        have B3 := B2.same s3
        have ra3 : ∀ r ∈ rs ++ [(t, x1, x2)], PlAt (upd G2 t (.tup [.str x1, .str x2])) r := fun r h => by
          rcases List.mem_append.mp h with h | h
          · exact (ra2 r h).same s3
          · simp at h
            subst h
            exact ⟨lt, o1, o2⟩
        generalize upd G2 t (.tup [.str x1, .str x2]) = G3 at lt sG3 lr3 lm3 B3 ra3 ⊢
        refine ⟨pr, _, _, rfl, rfl, lr3, small1000 (by rw [List.length_map]; omega), ?_⟩
        refine ⟨_, _, _, _, _, rs ++ [(t, x1, x2)], rfl, ?_, by simp [lrs], fun r h => ?_, ?_, B3.put rb rL, ?_⟩
        · rw [upd_same, List.map_append]
          rfl
        · have z := ra3 r h
          exact ⟨by rw [upd_ne (ne_of z.at_ lr3 (by intro z; cases z))]; exact z.at_, z.o1, z.o2⟩
        · rw [upd_ne mr]
          exact lm3
        · intro c o e
          rw [upd_ne (ne_of_none e nprH)]
          exact sG3 _ _ e
      rintro σ H9b ⟨u6, u7, u8, u9, u10, rs, rfl, lr, lrs, ra, lm, BG, sG⟩
      clear lpm9 lr9 B9 sH9 k9 lr8 lpm8 B8 sH8 all1 len1
      try dsimp only [tNext]
      -- kept, form
      have l40 : rs.length ≤ 40 := by omega
      refine ⟨_, rfl, pr, _, rfl, .inl (SqL.of lr), fun pk npk => ?_⟩
      have s2 : Same H9b (upd H9b pk (.lst (rs.map plV))) := same_upd (Same.refl _) npk
      have lk : (upd H9b pk (.lst (rs.map plV))) pk = some (.lst (rs.map plV)) := upd_same
      obtain ⟨kb, kL⟩ := BG.apart npk
      have lr2 := s2 _ _ lr
      have ra2 : ∀ r ∈ rs, PlAt (upd H9b pk (.lst (rs.map plV))) r := fun r h => (ra r h).same s2
      have B2 := BG.same s2
      have sG2 := sG.trans s2
      generalize upd H9b pk (.lst (rs.map plV)) = G2 at lk lr2 ra2 B2 sG2 ⊢
      refine ⟨_, rfl, b, Lb, 2, rfl, by decide, by decide +kernel, B2, fun d3 G3 a3 c3 B3 k3 => ?_⟩
      have apt : ∀ r ∈ rs, r.1 ≠ b ∧ r.1 ≠ Lb := fun r h => by
        obtain ⟨gs, now, seed, turn, Bx⟩ := B2
        exact ⟨ne_of (ra2 r h).at_ Bx.dc (by intro z; cases z), ne_of (ra2 r h).at_ Bx.ls (by intro z; cases z)⟩
      have ra3 : ∀ r ∈ rs, PlAt G3 r := fun r h => ⟨k3 _ _ (apt r h).1 (apt r h).2 (ra2 r h).at_, (ra r h).o1, (ra r h).o2⟩
      have lr3 := k3 _ _ rb rL lr2
      have lk3 := k3 _ _ kb kL lk
      have sG3 := sG2.kp nb0 nL0 k3
      refine ⟨_, _, rfl, ?_⟩
      clear s2 npk lr ra BG sG lr2 lk ra2 B2 sG2 k3 lm
      try dsimp only [tNext]
      -- handed
      refine ⟨_, rfl, _, rfl, pr, _, rfl, .inl ⟨SqL.of lr3, fun pt npt => ?_⟩⟩
      have s4 : Same G3 (upd G3 pt (.tup (rs.map plV))) := same_upd (Same.refl _) npt
      have lt4 : (upd G3 pt (.tup (rs.map plV))) pt = some (.tup (rs.map plV)) := upd_same
      have lr4 := s4 _ _ lr3
      have lk4 := s4 _ _ lk3
      have ra4 : ∀ r ∈ rs, PlAt (upd G3 pt (.tup (rs.map plV))) r := fun r h => (ra3 r h).same s4
      have sG4 := sG3.trans s4
      generalize upd G3 pt (.tup (rs.map plV)) = G4 at lt4 lr4 lk4 ra4 sG4 ⊢
      refine ⟨(by show 2 ≤ sizeLine; decide), fun p2 np2 => ?_⟩
      have s5 : Same G4 (upd G4 p2 (.lst [.ref pr, .ref pt])) := same_upd (Same.refl _) np2
      have l25 : (upd G4 p2 (.lst [.ref pr, .ref pt])) p2 = some (.lst [.ref pr, .ref pt]) := upd_same
      have lt5 := s5 _ _ lt4
      have lr5 := s5 _ _ lr4
      have lk5 := s5 _ _ lk4
      have ra5 : ∀ r ∈ rs, PlAt (upd G4 p2 (.lst [.ref pr, .ref pt])) r := fun r h => (ra4 r h).same s5
      have sG5 := sG4.trans s5
      generalize upd G4 p2 (.lst [.ref pr, .ref pt]) = G5 at l25 lt5 lr5 lk5 ra5 sG5 ⊢
      have hh : ∃ ph : Addr, atI [V.ref pr, .ref pt] d3 = some (.ref ph) ∧ RowAt K G5 ph rs := by
        rcases (by omega : d3 = 0 ∨ d3 = 1) with rfl | rfl
        · exact ⟨pr, rfl, .inl (SqL.of lr5), l40, ra5⟩
        · exact ⟨pt, rfl, .inr (SqT.of lt5), l40, ra5⟩
      obtain ⟨ph, ih, rowH⟩ := hh
      refine ⟨_, rfl, p2, _, _, _, rfl, rfl, SqL.of l25, ih, ?_⟩
      clear s4 npt lt4 lr4 lk4 ra4 sG4 s5 np2 l25 ih lr3 lk3 ra3 sG3 B3
      try dsimp only [tNext]
      -- found
      refine ⟨_, rfl, ph, rs, rfl, rowH, fun pf G6 nf s6 lf => ?_⟩
      have more : ∀ {G G' : Hp} {q : Addr}, RowAt K G q rs → Same G G' → RowAt K G' q rs := fun h e => ⟨h.1.imp e.seq (same_seqT e), h.2.1, fun r hr => (h.2.2 r hr).same e⟩
      have rowH6 := more rowH s6
      have lk6 := s6 _ _ lk5
      have ra6 : ∀ r ∈ rs, PlAt G6 r := fun r h => (ra5 r h).same s6
      have sG6 := sG5.trans s6
      have lo : ∀ r ∈ lastOf rs, r ∈ rs := fun r h => lastOf_mem h
      have ll : (lastOf rs).length ≤ 40 := Nat.le_trans (lastOf_len rs) l40
      clear rowH lk5 ra5 lr5 lt5 sG5 s6 nf
      try dsimp only [tNext]
      refine seq_rest (fun σ1 G => σ1 = [some (.ref a), some (.int (0 + i)), some (.ref b), some (.ref pm), some (.int (1 + d7)), some (.ref pr), u6, some (.ref pk), some (.int d3), some (.ref ph), some (.ref pf)] ∧ Same G6 G) ?_ (fun rest => ?_)
      rotate_left
      · -- isinstance; found != due(kept); list(handed) != kept
        refine ⟨_, rfl, .ref pf, .ty "tuple", .type "tuple", .type "tuple", true, rfl, .ty _, .base (.tup lf), kit_ty (by decide +kernel), ?_⟩
        refine ⟨_, rfl, iteF ?_⟩
        refine ⟨_, rfl, _, rfl, pk, rs, rfl, ⟨.inl (SqL.of lk6), l40, ra6⟩, fun pd G7 nd7 s7 ld => ?_⟩
        have lf7 := s7 _ _ lf
        have lk7 := s7 _ _ lk6
        have ra7 : ∀ r ∈ rs, PlAt G7 r := fun r h => (ra6 r h).same s7
        have ro7 : ∀ r ∈ lastOf rs, PlAt G7 r := fun r h => ra7 r (lo r h)
        refine ⟨.tuple (plsD (lastOf rs)), .tuple (plsD (lastOf rs)), .tup (SqT.of lf7) (pls_dp ro7), .tup (SqT.of ld) (pls_dp ro7), pls_shT ro7, pls_shT ro7, _, rfl, ?_⟩
        rw [eqv_rows]
        refine iteF ?_
        have rowH7 := more rowH6 s7
        refine ⟨_, rfl, ph, _, rfl, rowH7.1, fun pl npl => ?_⟩
        have s8 : Same G7 (upd G7 pl (.lst (rs.map plV))) := same_upd (Same.refl _) npl
        have ll8 : (upd G7 pl (.lst (rs.map plV))) pl = some (.lst (rs.map plV)) := upd_same
        have ra8 : ∀ r ∈ rs, PlAt (upd G7 pl (.lst (rs.map plV))) r := fun r h => (ra7 r h).same s8
        refine ⟨_, rfl, .list (plsD rs), .list (plsD rs), .lst (SqL.of ll8) (pls_dp ra8), .lst (SqL.of (s8 _ _ lk7)) (pls_dp ra8), pls_shL ra8, pls_shL ra8, _, rfl, ?_⟩
        rw [eqv_rowsL]
        refine iteF ?_
        exact rest _ _ ⟨rfl, s7.trans s8⟩
      rintro σ1 G ⟨rfl, sx⟩
      have lfx := sx _ _ lf
      have rax : ∀ r ∈ rs, PlAt G r := fun r h => (ra6 r h).same sx
      have rox : ∀ r ∈ lastOf rs, PlAt G r := fun r h => rax r (lo r h)
      have rowHx := more rowH6 sx
      have sGx := sG6.trans sx
      -- shortened(found)
      refine ⟨_, rfl, pf, lastOf rs, rfl, ⟨.inr (SqT.of lfx), ll, rox⟩, fun q1 G1 n1 t1 e1 => ?_⟩
      rw [lastOf_twice] at e1
      have ro1 : ∀ r ∈ lastOf rs, PlAt G1 r := fun r h => (rox r h).same t1
      have lf1 := t1 _ _ lfx
      refine ⟨_, rfl, .tuple (plsD (lastOf rs)), .tuple (plsD (lastOf rs)), .tup (SqT.of e1) (pls_dp ro1), .tup (SqT.of lf1) (pls_dp ro1), pls_shT ro1, pls_shT ro1, _, rfl, ?_⟩
      rw [eqv_rows]
      refine iteF ?_
      -- shortened(list(found))
      refine ⟨_, rfl, pf, _, rfl, .inr (SqT.of lf1), fun q2 n2 => ?_⟩
      have t2 : Same G1 (upd G1 q2 (.lst ((lastOf rs).map plV))) := same_upd (Same.refl _) n2
      have e2 : (upd G1 q2 (.lst ((lastOf rs).map plV))) q2 = some (.lst ((lastOf rs).map plV)) := upd_same
      have ro2 : ∀ r ∈ lastOf rs, PlAt (upd G1 q2 (.lst ((lastOf rs).map plV))) r := fun r h => (ro1 r h).same t2
      have lf2 := t2 _ _ lf1
      have t02 := t1.trans t2
      generalize upd G1 q2 (.lst ((lastOf rs).map plV)) = G2 at e2 ro2 lf2 t02 ⊢
      refine ⟨q2, lastOf rs, rfl, ⟨.inl (SqL.of e2), ll, ro2⟩, fun q3 G3 n3 t3 e3 => ?_⟩
      rw [lastOf_twice] at e3
      have ro3 : ∀ r ∈ lastOf rs, PlAt G3 r := fun r h => (ro2 r h).same t3
      have lf3 := t3 _ _ lf2
      have t03 := t02.trans t3
      refine ⟨_, rfl, .tuple (plsD (lastOf rs)), .tuple (plsD (lastOf rs)), .tup (SqT.of e3) (pls_dp ro3), .tup (SqT.of lf3) (pls_dp ro3), pls_shT ro3, pls_shT ro3, _, rfl, ?_⟩
      rw [eqv_rows]
      refine iteF ?_
      -- shortened(handed)
      refine ⟨_, rfl, ph, rs, rfl, more rowHx t03, fun q4 G4 n4 t4 e4 => ?_⟩
      have ro4 : ∀ r ∈ lastOf rs, PlAt G4 r := fun r h => (ro3 r h).same t4
      have lf4 := t4 _ _ lf3
      refine ⟨_, rfl, .tuple (plsD (lastOf rs)), .tuple (plsD (lastOf rs)), .tup (SqT.of e4) (pls_dp ro4), .tup (SqT.of lf4) (pls_dp ro4), pls_shT ro4, pls_shT ro4, _, rfl, ?_⟩
      rw [eqv_rows]
      refine iteF ?_
      exact ⟨_, _, _, _, _, _, _, _, _, _, rfl, sGx.trans (t03.trans t4)⟩
    · rintro σ H1 ⟨v1, v2, v3, v4, v5, v6, v7, v8, v9, v10, rfl, s1⟩
      exact k H1
end
end Tg

namespace Tg
open PySem L2 Ow
theorem all_mk {l : PySem.W.OpenLaw} {w : World} {K : PySem.W.Frag} {h : Heap} {mg : Str → Option Value} {fa f1 f2 f3 f4 f5 f6 f7  : Addr}   (X : K.In h) (G : h.Ns mainGlobals mg) (hfa : mg "law" = some (.ref fa))
    {od1 an1 od2 an2 od3 an3 od4 an4 od5 an5 od6 an6 od7 an7 : Option Addr} {sl1 sl2 sl3 sl4 sl5 sl6 sl7 : Array (Option Value)} {oc1 kV1 dc1 pm1 cd1 ct1 oc2 kV2 dc2 pm2 cd2 ct2 oc3 kV3 dc3 pm3 cd3 ct3 oc4 kV4 dc4 pm4 cd4 ct4 oc5 kV5 dc5 pm5 cd5 ct5 oc6 kV6 dc6 pm6 cd6 ct6 oc7 kV7 dc7 pm7 cd7 ct7 : Value}
    (a1 : PySem.W.nsIn K mainGlobals "shortened" = some (some (.ref f1)))
    (l1 : K.lookup f1 = some ⟨oc1, od1, .func (PySem.W.fnOf "shortened" "shortened" (defArgs sEned_) (defBody sEned_) (defScope sEned_) .none kV1 dc1 pm1 an1 cd1 ct1), sl1⟩)
    (c1 : PySem.W.codeIn K cd1 "shortened" = true)
    (k1 : PySem.W.keepIn K (.ref f1) = true)
    (a2 : PySem.W.nsIn K mainGlobals "_law_box" = some (some (.ref f2)))
    (l2 : K.lookup f2 = some ⟨oc2, od2, .func (PySem.W.fnOf "_law_box" "_law_box" (defArgs sBox) (defBody sBox) (defScope sBox) .none kV2 dc2 pm2 an2 cd2 ct2), sl2⟩)
    (c2 : PySem.W.codeIn K cd2 "_law_box" = true)
    (k2 : PySem.W.keepIn K (.ref f2) = true)
    (a3 : PySem.W.nsIn K mainGlobals "_law_take" = some (some (.ref f3)))
    (l3 : K.lookup f3 = some ⟨oc3, od3, .func (PySem.W.fnOf "_law_take" "_law_take" (defArgs sTake) (defBody sTake) (defScope sTake) .none kV3 dc3 pm3 an3 cd3 ct3), sl3⟩)
    (c3 : PySem.W.codeIn K cd3 "_law_take" = true)
    (k3 : PySem.W.keepIn K (.ref f3) = true)
    (a4 : PySem.W.nsIn K mainGlobals "_law_mixed" = some (some (.ref f4)))
    (l4 : K.lookup f4 = some ⟨oc4, od4, .func (PySem.W.fnOf "_law_mixed" "_law_mixed" (defArgs sMixed) (defBody sMixed) (defScope sMixed) .none kV4 dc4 pm4 an4 cd4 ct4), sl4⟩)
    (c4 : PySem.W.codeIn K cd4 "_law_mixed" = true)
    (k4 : PySem.W.keepIn K (.ref f4) = true)
    (a5 : PySem.W.nsIn K mainGlobals "_law_names" = some (some (.ref f5)))
    (l5 : K.lookup f5 = some ⟨oc5, od5, .func (PySem.W.fnOf "_law_names" "_law_names" (defArgs sNames) (defBody sNames) (defScope sNames) .none kV5 dc5 pm5 an5 cd5 ct5), sl5⟩)
    (c5 : PySem.W.codeIn K cd5 "_law_names" = true)
    (k5 : PySem.W.keepIn K (.ref f5) = true)
    (a6 : PySem.W.nsIn K mainGlobals "_law_due" = some (some (.ref f6)))
    (l6 : K.lookup f6 = some ⟨oc6, od6, .func (PySem.W.fnOf "_law_due" "_law_due" (defArgs sDue_) (defBody sDue_) (defScope sDue_) .none kV6 dc6 pm6 an6 cd6 ct6), sl6⟩)
    (c6 : PySem.W.codeIn K cd6 "_law_due" = true)
    (k6 : PySem.W.keepIn K (.ref f6) = true)
    (a7 : PySem.W.nsIn K mainGlobals "law" = some (some (.ref f7)))
    (l7 : K.lookup f7 = some ⟨oc7, od7, .func (PySem.W.fnOf "law" "law" (defArgs sLaw) (defBody sLaw) (defScope sLaw) .none kV7 dc7 pm7 an7 cd7 ct7), sl7⟩)
    (c7 : PySem.W.codeIn K cd7 "law" = true)
    (k7 : PySem.W.keepIn K (.ref f7) = true)
    (z_tuple : PySem.W.nsIn K mainGlobals "tuple" = some none)
    (z_enumerate : PySem.W.nsIn K mainGlobals "enumerate" = some none)
    (z_list : PySem.W.nsIn K mainGlobals "list" = some none)
    (z_range : PySem.W.nsIn K mainGlobals "range" = some none)
    (z_isinstance : PySem.W.nsIn K mainGlobals "isinstance" = some none)
    (z_abs : PySem.W.nsIn K mainGlobals "abs" = some none)
    (z_len : PySem.W.nsIn K mainGlobals "len" = some none)
    (z_int : PySem.W.nsIn K mainGlobals "int" = some none)
    (z_min : PySem.W.nsIn K mainGlobals "min" = some none) :
    ∃ fd : FuncData, (∀ (s : Shared) (v : Value), BindsTo s fd ⟨[v], []⟩ [("_law_script", v)]) ∧ ∀ base : Heap, K.In base → base.Ns mainGlobals mg → FnOkG l.prog w K mg base CX0 4 fa fd ["_law_script"] (spLaw K) := by
  have e := hfa.symm.trans (PySem.W.mg_of X G a7)
  cases e
  have F1 := fun_mk (st := sEned_) l1 c1 k1
  have b1 := F1.binds (ps := ["row"]) fun _ _ _ _ _ _ us hl => match us, hl with | [_], _ => rfl
  have m1 := PySem.W.mg_of X G a1
  have F2 := fun_mk (st := sBox) l2 c2 k2
  have b2 := F2.binds (ps := ["_law_script", "_law_base"]) fun _ _ _ _ _ _ us hl => match us, hl with | [_, _], _ => rfl
  have m2 := PySem.W.mg_of X G a2
  have F3 := fun_mk (st := sTake) l3 c3 k3
  have b3 := F3.binds (ps := ["_law_box_here", "_law_many"]) fun _ _ _ _ _ _ us hl => match us, hl with | [_, _], _ => rfl
  have m3 := PySem.W.mg_of X G a3
  have F4 := fun_mk (st := sMixed) l4 c4 k4
  have b4 := F4.binds (ps := ["_law_box_here", "_law_items"]) fun _ _ _ _ _ _ us hl => match us, hl with | [_, _], _ => rfl
  have m4 := PySem.W.mg_of X G a4
  have F5 := fun_mk (st := sNames) l5 c5 k5
  have b5 := F5.binds (ps := ["_law_box_here", "_law_many"]) fun _ _ _ _ _ _ us hl => match us, hl with | [_, _], _ => rfl
  have m5 := PySem.W.mg_of X G a5
  have F6 := fun_mk (st := sDue_) l6 c6 k6
  have b6 := F6.binds (ps := ["_law_row"]) fun _ _ _ _ _ _ us hl => match us, hl with | [_], _ => rfl
  have m6 := PySem.W.mg_of X G a6
  have F7 := fun_mk (st := sLaw) l7 c7 k7
  have b7 := F7.binds (ps := ["_law_script"]) fun _ _ _ _ _ _ us hl => match us, hl with | [_], _ => rfl
  have n_tuple := PySem.W.mg_none_of X G z_tuple
  have n_enumerate := PySem.W.mg_none_of X G z_enumerate
  have n_list := PySem.W.mg_none_of X G z_list
  have n_range := PySem.W.mg_none_of X G z_range
  have n_isinstance := PySem.W.mg_none_of X G z_isinstance
  have n_abs := PySem.W.mg_none_of X G z_abs
  have n_len := PySem.W.mg_none_of X G z_len
  have n_int := PySem.W.mg_none_of X G z_int
  have n_min := PySem.W.mg_none_of X G z_min
  have TB : TxtB mg := ⟨n_abs, n_len⟩
  have TM : TxtM mg := ⟨n_list, n_range, n_len⟩
  have TN : TxtN mg := ⟨n_range, n_len, n_int, n_min⟩
  have TH : TxtH mg := ⟨n_tuple, n_enumerate, n_list, n_range, n_isinstance⟩
  refine ⟨PySem.W.fnOf "law" "law" (defArgs sLaw) (defBody sLaw) (defScope sLaw) .none kV7 dc7 pm7 an7 cd7 ct7, fun s v => .of_eq rfl, fun base _ _ => ?_⟩
  have cTake : Cal l.prog w K mg base 1 "_law_take" ["_law_box_here", "_law_many"] spTake := ⟨f3, _, ok_take F3 TB, m3, k3, b3⟩
  have cMixed : Cal l.prog w K mg base 2 "_law_mixed" ["_law_box_here", "_law_items"] (spMixed K) := ⟨f4, _, ok_mixed F4 TM cTake, m4, k4, b4⟩
  have cNames : Cal l.prog w K mg base 3 "_law_names" ["_law_box_here", "_law_many"] spNames := ⟨f5, _, ok_names F5 TN cTake cMixed, m5, k5, b5⟩
  exact FnOkG.of (ok_law F7 { T := TH, cBox := ⟨f2, _, ok_box F2 TB, m2, k2, b2⟩, cTake := cTake, cMixed := cMixed, cNames := cNames, cShort := ⟨f1, _, ok_short F1 TH, m1, k1, b1⟩, cDue := ⟨f6, _, ok_due F6 TH, m6, k6, b6⟩ })
theorem walk {l : PySem.W.OpenLaw} {q : Program} {loose : List Str} {XP : (Str → Option Value) → Heap → Prop} {YP : World → Heap → Prop} {d : DefRec} {K : Params → PySem.W.Frag} (hn : l.most = some 63) (hdf : d.params.defaults = []) (hY : ∀ (w : World) (h : Heap), YP w h → (K w.params).In h)
    (F : ∀ (w : World) (mg : Str → Option Value) (fa : Addr) (h : Heap), (K w.params).In h → h.Ns mainGlobals mg → mg d.name = some (.ref fa) →
      ∃ fd : FuncData, (∀ (s : Shared) (u : Value), BindsTo s fd ⟨[u], []⟩ [("_law_script", u)]) ∧ ∀ base : Heap, (K w.params).In base → base.Ns mainGlobals mg → FnOkG l.prog w (K w.params) mg base CX0 4 fa fd ["_law_script"] (spLaw (K w.params))) :
    PySem.W.WalkO q loose XP YP l.row.toRowW d [] (fun f vs => PySem.call f vs) :=
  Ow.walk_G (n := 63) (k := 4) (x := "_law_script") (sp := fun w => spLaw (K w.params)) hn (by decide) hdf ⟨rfl, by decide, by decide⟩ hY F fun _ _ a ms hl hS => ⟨a, ms, rfl, hS, hl, fun _ => rfl⟩
end Tg
open PySem PySem.W PyProof.Rows
set_option maxRecDepth 100000 in
set_option maxHeartbeats 0 in
theorem PySem.Challenge.cw_towgrove_k34_rows_shortened_holds : PySem.Challenge.rw_towgrove_k34_rows_shortened.Holds := by
  w_on; o_law; k_head; (case hw => w_witness2)
  k_fill
  refine Tg.walk (l := PySem.Challenge.rw_towgrove_k34_rows_shortened) rfl rfl (fun w h Y => PySem.W.kIn_of Y) ?F
  case F =>
    intro w mg fa h KX G hmg
    refine' Tg.all_mk KX G hmg ?y_a1 ?y_l1 ?y_c1 ?y_k1 ?y_a2 ?y_l2 ?y_c2 ?y_k2 ?y_a3 ?y_l3 ?y_c3 ?y_k3 ?y_a4 ?y_l4 ?y_c4 ?y_k4 ?y_a5 ?y_l5 ?y_c5 ?y_k5 ?y_a6 ?y_l6 ?y_c6 ?y_k6 ?y_a7 ?y_l7 ?y_c7 ?y_k7 ?y_z_tuple ?y_z_enumerate ?y_z_list ?y_z_range ?y_z_isinstance ?y_z_abs ?y_z_len ?y_z_int ?y_z_min
    (case y_a1 => k_is); (case y_l1 => k_is); (case y_c1 => k_is); (case y_k1 => k_is); (case y_a2 => k_is); (case y_l2 => k_is); (case y_c2 => k_is); (case y_k2 => k_is)
    (case y_a3 => k_is); (case y_l3 => k_is); (case y_c3 => k_is); (case y_k3 => k_is); (case y_a4 => k_is); (case y_l4 => k_is); (case y_c4 => k_is); (case y_k4 => k_is)
    (case y_a5 => k_is); (case y_l5 => k_is); (case y_c5 => k_is); (case y_k5 => k_is); (case y_a6 => k_is); (case y_l6 => k_is); (case y_c6 => k_is); (case y_k6 => k_is)
    (case y_a7 => k_is); (case y_l7 => k_is); (case y_c7 => k_is); (case y_k7 => k_is); (case y_z_tuple => k_is); (case y_z_enumerate => k_is); (case y_z_list => k_is); (case y_z_range => k_is)
    (case y_z_isinstance => k_is); (case y_z_abs => k_is); (case y_z_len => k_is); (case y_z_int => k_is); (case y_z_min => k_is)
#print axioms PySem.Challenge.cw_towgrove_k34_rows_shortened_holds

