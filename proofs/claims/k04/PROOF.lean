import PyProof.Rows.All
import Wide.All
import OpenK.AllK
import Wide.FinOn
import HandS.ForMost
import HandS.IsInst
import HandS.Defaults
import HandS.MakeKw
import HandS.Star
import HandS.OwnEq
import HandS.Property
import HandS.ClsMeth
import HandS.FStr
import HandS.Exc
import HandS.ExcInit
import HandS.ExcIs
import KE.KExcInit
import KE.KExcIs
import HandS.ForExc
import HandS.ExcField
import KE.KTryMore
import HandS.HotCalls
import HandS.Lambda
import HandS.Nested
import HandS.Wide
import HandS.Evl
import HandS.Zip
import HandS.WordsExc
import HandS.ReCall
import HandS.Strs
import HandS.SortInts
import HandS.Walk
import HandS.Conv
import HandS.TupAny
import HandS.Small
import HandS.EndTab
import PySem.Challenge.RW_ownchute_k04_lines_changed
set_option Elab.async false
set_option maxRecDepth 100000
set_option maxHeartbeats 4000000
set_option linter.unusedVariables false
namespace Own
open PySem L2 PySem.Spec PyProof.Rows
/-! ### f(*e, k = v, ..): the star's items are read behind the keywords -/
section
variable {M : Model} {A : Around} {E : Value → Shared → Prop} {s : Shared}
theorem lone_kw {f : Value} {x : Sem Value} {pos : Pos} {kws : List (Option Str × Sem Value)} {Q : Args → Shared → Prop} (hall : kws.all (·.1.isSome) = true)
    (h : wpAny M A x (fun v s₁ => wpAny M A (evalAll (kws.map (·.2))) (fun ks s₂ => PySem.W.StarOf M A E v (fun vs s₃ => Q ⟨vs, (kws.filterMap (·.1)).zip ks⟩ s₃) s₂) E s₁) E s) :
    wpAny M A (evalArgs f true [(true, (do let v ← x; standAt pos; pure v))] kws) Q E s := by
  unfold evalArgs
  first
    | refine wpAny_bind (wpAny_bind (wpAny_mono h (fun v s₁ h₁ => wpAny_bind (wpAny_standAt (wpAny_pure ?_))) fun _ _ x => x))
    | refine wpAny_bind (wpAny_bind (wpAny_bind (wpAny_mono h (fun v s₁ h₁ => wpAny_bind (wpAny_standAt (wpAny_pure (wpAny_pure ?_)))) fun _ _ x => x)))
  refine wpAny_holding ?_
  simp only [hall, if_true]
  refine wpAny_bind (wpAny_mono h₁ (fun ks s₂ h₂ => ?_) fun _ _ x => x)
  unfold PySem.W.StarOf at h₂
  refine wpAny_bind (wpAny_bind (wpAny_mono h₂ (fun b s₃ h₃ => ?_) fun _ _ x => x))
  obtain ⟨rfl, h₃⟩ := h₃
  rw [if_neg Bool.false_ne_true]
  exact wpAny_holding (wpAny_mono h₃ (fun vs s₄ h₄ => wpAny_pure h₄) fun _ _ x => x)
/-- the call's node with a star and keywords -/
theorem call_starkw {f : Value} {pos : Pos} {Q : Value → Shared → Prop} {K : PySem.W.Frag} {args : List (Bool × Sem Value)} {kws : List (Option Str × Sem Value)} (hst : args.any (·.1) = true) (hk : PySem.W.keepIn K f = true)
    (h : wpAny M A (evalArgs f true args kws) (fun a s₁ => K.In s₁.heap ∧ wpAny M A (call f a.pos a.kw) Q E s₁) E s) : wpAny M A (callWith pos f [] args kws) Q E s := by
  unfold callWith
  refine wpAny_bind (wpAny_holding (wpAny_mono h (fun a s₁ h₁ => wpAny_bind (wpAny_standAt ?_)) fun _ _ x => x))
  obtain ⟨k, hk', L⟩ := PySem.W.looks_keep hk h₁.1
  simp only [hst, Bool.true_or]
  refine wpAny_bind (L.here ?_)
  have tail : ∀ {t : Sem Value}, wpAny M A t Q E s₁ → wpAny M A (t >>= fun r => holding [r] point >>= fun _ => pure r) Q E s₁ :=
    fun ht => wpAny_bind (wpAny_mono ht (fun r s₂ hr => wpAny_bind (wpAny_holding (wpAny_point (wpAny_pure hr)))) fun _ _ x => x)
  have marked (mk : Value) : wpAny M A (callMarked mk f ([] ++ a.pos) a.kw) Q E s₁ := by unfold callMarked; exact Calls.wpAny_keep h₁.2
  rcases hk' with rfl | rfl <;> dsimp only <;> first | exact tail (marked _) | exact tail (wpAny_operating h₁.2)
end
/-! ### def f(self, *v, k = d, ..): what is bound -/
/-- t looks the names up in the dict at D, one behind another, and goes on as r -/
def KwCh {α : Type} (D : Addr) : List (Str × Value) → Sem α → Sem α → Prop
  | [], t, r => t = r
  | q :: l, t, r => ∃ (β γ : Type) (k1 : Option Value → Sem β) (k2 : β → Sem γ) (k3 : γ → Sem α) (a : β), t = ((nsGet D q.1 >>= k1) >>= k2) >>= k3 ∧ k1 (some q.2) = pure a ∧ KwCh D l (k2 a >>= k3) r
theorem KwCh.run {α : Type} {K : PySem.W.Frag} {M : Model} {A : Around} {E : Value → Shared → Prop} {Q : α → Shared → Prop} {D : Addr} : ∀ {l : List (Str × Value)} {t r : Sem α} {s : Shared}, K.In s.heap → (∀ q ∈ l, PySem.W.nsIn K D q.1 = some (some q.2)) → KwCh D l t r → wpAny M A r Q E s → wpAny M A t Q E s
  | [], t, r, s, _, _, e, h => by rw [show t = r from e]; exact h
  | q :: l, t, r, s, X, hl, e, h => by
    obtain ⟨β, γ, k1, k2, k3, a, e1, e2, e3⟩ := e
    have l1 : PySem.W.Looks M s.heap (nsGet D q.1 >>= k1) a := (PySem.W.looks_nsIn X (hl q (List.mem_cons_self ..))).andThen (PySem.W.Looks.of_pure e2)
    rw [e1, bind_assoc]
    exact wpAny_bind (l1.here (KwCh.run X (fun p hp => hl p (List.mem_cons_of_mem _ hp)) e3 h))
/-- an own class's __init__(self, *v, k = .., ..), called with keywords named ks: what it promises by its values -/
def FnSt (P : Program) (w : World) (K : PySem.W.Frag) (mg : Str → Option Value) (base : Heap) (CX : CXT) (k : Nat) (f : Addr) (ks : List Str) (gV : List V → List V) (sp : Sp) : Prop :=
  ∀ (A : Around) (outer : List Env) (s : Shared) (H : Hp) (a : Value) (va : V) (us : List Value) (vs : List V) (ws : List Value) (zs : List V) (Q : VK) (E : XK), Room k A → Env0 P w K mg base A outer s H → RelV va a → Vals vs us → Vals zs ws → zs.length = ks.length → vs.length ≤ sizeLine →
    (∀ p, H p = none → sp (va :: (gV zs ++ [.ref p])) (upd H p (.tup vs)) Q E) → codeAny (model P w) A (.call (.ref f) ⟨a :: us, ks.zip ws⟩) (CR CX outer P w H s Q E) s
section
variable {CX : CXT} {P : Program} {w : World} {K : PySem.W.Frag} {mg : Str → Option Value} {base : Heap} {k : Nat} {f D : Addr} {name qual pv p0 : Str} {params : Arguments} {body : List Stmt} {scope : Scope} {dV doc pm cdv ct oc : Value} {an od : Option Addr} {osl : Array (Option Value)} {N ps ks : List Str} {sp : Sp}
theorem fn_starKwo {ms : List (Str × V)} {g : List Value → List Value → List Value} {gV : List V → List V → List V} (lk : K.lookup f = some ⟨oc, od, .func (PySem.W.fnOf name qual params body scope dV (.ref D) doc pm an cdv ct), osl⟩) (hcd : PySem.W.codeIn K cdv qual = true) (S : FnScope N (p0 :: (ps ++ [pv])) scope) (hCX : StX.CXUp CX)
    (hms : ∀ q ∈ ms, ∃ u, PySem.W.nsIn K D q.1 = some (some u) ∧ RelV q.2 u) (hg : ∀ {zs : List V} {ws mz mv}, Vals zs ws → Vals mz mv → Vals (gV zs mz) (g ws mv)) (hgl : ∀ (ws mv : List Value), ws.length = ks.length → mv.length = ms.length → (g ws mv).length = ps.length)
    (hb : ∀ (a : Value) (us ws mv : List Value), ws.length = ks.length → mv.length = ms.length → KwCh D ((ms.map (·.1)).zip mv) (bindArgs (PySem.W.fnOf name qual params body scope dV (.ref D) doc pm an cdv ct) ⟨a :: us, ks.zip ws⟩) (newTuple us >>= fun t => pure ((p0, a) :: (ps.zip (g ws mv) ++ [(pv, t)]))))
    (hbody : ∀ (A : Around) (outer : List Env) (s : Shared) (H : Hp) (vs : List V) (Q : VK) (E : XK), Room k (A.deeper (envOfC qual scope s.heap.objs.size f cdv)) → sp vs H Q E →
      ∃ t, PSs (cxOf CX P w K mg base N qual scope f cdv A outer s H E) body t ∧ t { nx := fun _ H' => Q .non H', rt := Q } (start N vs) H) :
    FnSt P w K mg base CX (k + 1) f ks (fun zs => gV zs (ms.map (·.2))) sp := by
  intro A outer s H a va us vs ws zs Q E hr e0 ra r rz hzl hz hq
  obtain ⟨mv, hml, rm, hmk⟩ := kwd_vals (K := K) (D := D) hms
  have hn : H s.heap.objs.size = Option.none := e0.hok.fresh (Nat.le_refl _)
  have KX : K.In s.heap := e0.mod.kin.keeps fun b o e => (e0.bs b o e).1
  have hl2 : us.length ≤ sizeLine := by rw [← r.length]; exact hz
  have hwl : ws.length = ks.length := by rw [← rz.length]; exact hzl
  have rg := hg rz rm
  have gl := hgl ws mv hwl hml
  refine StX.run_bnd (ps := p0 :: (ps ++ [pv])) lk hcd S hr e0 (G := fun xs H2 => ∃ p, H p = Option.none ∧ xs = va :: (gV zs (ms.map (·.2)) ++ [V.ref p]) ∧ H2 = upd H p (.tup vs)) (fun A' Ex Q' h => ?_) fun s2 H2 xs ⟨p, hp, ex, eH⟩ hr' => ?_
  · refine (hb a us ws mv hwl hml).run KX hmk ?_
    refine wpAny_bind (wpAny_newTuple (wpAny_pure ?_) hl2)
    have new : ObjOk P w (upd H s.heap.objs.size (.tup vs)) (s.heap.push ({ cls := .type "tuple", data := .seq us.toArray } : Obj)) s.heap.objs.size (.tup vs) := ⟨hz, us, r, ⟨_, Heap.get?_push_size _ rfl, rfl, _, rfl⟩⟩
    have un := StX.un_laid (fs := frs outer) (s := s) (o := ({ cls := .type "tuple", data := .seq us.toArray } : Obj)) (u := .tup vs) hn
    have z := h _ _ (va :: (gV zs (ms.map (·.2)) ++ [V.ref s.heap.objs.size])) (a :: (g ws mv ++ [Value.ref s.heap.objs.size])) (StX.env0_laid e0 new) un rfl (fun e s' => hCX outer s H _ _ E e s' un (fun b o q => Heap.get?_push_of_some _ q) rfl) (.cons ra (rg.append (.cons rfl .nil)))
      (by have q := rg.length; simp only [List.length_cons, List.length_append, List.length_nil]; omega) ⟨_, hn, rfl, rfl⟩
    have e : (p0 :: (ps ++ [pv])).zip (a :: (g ws mv ++ [Value.ref s.heap.objs.size])) = (p0, a) :: (ps.zip (g ws mv) ++ [(pv, Value.ref s.heap.objs.size)]) := by
      rw [List.zip_cons_cons, List.zip_append gl.symm]
      rfl
    rw [e] at z
    exact z
  · subst ex eH
    exact hbody A outer s2 _ _ Q E hr' (hq p hp)
end

/-- C(.., k = v, ..) and C(*e, k = v, ..), C's __init__ with *v: a new instance, its dict, the tuple of what is left over -/
def tMkS (C : Addr) (sp : Sp) (gV : List V → List V) (E : XK) : List V → List V → Hp → VK → Prop := fun vs zs H Q => vs.length ≤ 1000 ∧ ∀ x dx p, H x = none → H dx = none → dx ≠ x → H p = none → p ≠ x → p ≠ dx → sp (.ref x :: (gV zs ++ [.ref p])) (upd (upd (upd H dx (.own x)) x (.ins C dx [])) p (.tup vs)) (fun v H2 => v = .non ∧ Q (.ref x) H2) E
section
variable {X : Cx} {pins : List (Addr × Obj)} {σ : L2.St} {H : Hp} {s : Shared} {CX : CXT} {k : Nat} {f C : Addr} {ks : List Str} {gV : List V → List V} {sp : Sp} {E : XK} {x : Str} {e : Expr} {es : List Expr} {kws : List Keyword} {te : TE} {t tk : TA} {p sp_ pos : Pos}
theorem run_mkS {Q : VK} {us ws : List Value} {vs zs : List V} (M : Mk X.K C f) (F : FnSt X.prog X.w X.K X.mg X.base CX k f ks gV sp) (hr : Room (k + 1) X.A) (hx : Passes CX X E) (I : Inv X pins σ H s) (r : Vals vs us) (rz : Vals zs ws) (l2 : zs.length = ks.length) (h : tMkS C sp gV E vs zs H Q) :
    wpAny (model X.prog X.w) X.A (call (.ref C) us (ks.zip ws)) (EP X pins σ Q) X.xe s := by
  obtain ⟨hl, h⟩ := h
  have h1 := I.hok.fresh (Nat.le_succ s.heap.objs.size)
  have h2 := I.hok.fresh (Nat.le_refl s.heap.objs.size)
  have I2 := Inv.made (C := C) I
  have hz : vs.length ≤ sizeLine := Nat.le_trans hl (by decide)
  have key : ∀ p, (upd (upd H s.heap.objs.size (.own (s.heap.objs.size + 1))) (s.heap.objs.size + 1) (.ins C s.heap.objs.size [])) p = none → sp (.ref (s.heap.objs.size + 1) :: (gV zs ++ [.ref p])) (upd (upd (upd H s.heap.objs.size (.own (s.heap.objs.size + 1))) (s.heap.objs.size + 1) (.ins C s.heap.objs.size [])) p (.tup vs)) (fun v H2 => v = .non ∧ Q (.ref (s.heap.objs.size + 1)) H2) E := fun p hp => by
    by_cases e1 : p = s.heap.objs.size + 1
    · rw [e1, upd_same] at hp; cases hp
    · rw [upd_ne e1] at hp
      by_cases e2 : p = s.heap.objs.size
      · rw [e2, upd_same] at hp; cases hp
      · rw [upd_ne e2] at hp
        exact h (s.heap.objs.size + 1) s.heap.objs.size p h1 h2 (Nat.ne_of_lt (Nat.lt_succ_self _)) hp e1 e2
  refine wpAny_call (make_map (f := f) I.kIn M.makes M.init (beq_iff_eq.mp M.fn) (codeAny_mono (F _ X.stack _ _ (Value.ref (s.heap.objs.size + 1)) (V.ref (s.heap.objs.size + 1)) us vs ws zs (fun v H2 => v = .non ∧ Q (.ref (s.heap.objs.size + 1)) H2) E (hr.make C us (ks.zip ws)) (I2.env0.make C us (ks.zip ws)) rfl r rz l2 hz key) fun r s' hq' => ?_))
  · cases r with
    | error e => exact hx pins σ _ _ e s' I2 hq'
    | ok fl =>
      cases fl with
      | ret u =>
        obtain ⟨v, H', I3, rv, ev, q3⟩ := I2.after hq'
        subst ev
        exact ⟨rv, ⟨V.ref (s.heap.objs.size + 1), H', I3, rfl, q3⟩⟩
      | next => exact False.elim hq'
      | brk => exact False.elim hq'
      | cont => exact False.elim hq'
theorem pe_mkS (M : Mk X.K C f) (F : FnSt X.prog X.w X.K X.mg X.base CX k f ks gV sp) (hr : Room (k + 1) X.A) (hg : Gl X x) (hm : X.mg x = some (.ref C)) (hx : Passes CX X E) (ha : PA X (e :: es) t) (hkw : PK X kws tk) (hall : (backToKw pos (keywordEach kws X.env)).all (·.1.isSome) = true := by rfl)
    (hks : (backToKw pos (keywordEach kws X.env)).filterMap (·.1) = ks := by rfl) (hdb : (x == ("__debug__" : Str)) = false := by decide) (he : starEach (e :: es) X.env = (false, eval e X.env) :: starEach es X.env := by rfl)
    (hpl : ((backTo pos (starEach (e :: es) X.env)).any (·.1) || (backToKw pos (keywordEach kws X.env)).any (·.1.isNone)) = false := by rfl) :
    PE X (.Call (.Name x p) (e :: es) kws pos) (fun σ H Q => t σ H fun vs H1 => tk σ H1 fun zs H2 => zs.length = ks.length ∧ tMkS C sp gV E vs zs H2 Q) := by
  refine ⟨fun pins s σ H Q I h => wpAny_Call_Name_kw (ld_glob I hg hm (PySem.W.callWith_KW (h₀ := X.base) I.ok.mod.kin M.kp hall (thn (ha.run pos pins s σ H _ I h) fun us s1 ⟨vs, H1, I1, r, q⟩ => ?_) hpl he) hdb)⟩
  refine thn (hkw.run pos pins s1 σ H1 _ I1 q) fun ws s2 ⟨zs, H2, I2, rz, l2, q2⟩ => ⟨I2.kIn, ?_⟩
  rw [hks]
  exact run_mkS M F hr hx I2 r rz l2 q2
/-- C(e, ..) -/
theorem pe_mkSp (M : Mk X.K C f) (F : FnSt X.prog X.w X.K X.mg X.base CX k f [] gV sp) (hr : Room (k + 1) X.A) (hg : Gl X x) (hm : X.mg x = some (.ref C)) (hx : Passes CX X E) (ha : PA X (e :: es) t) (hdb : (x == ("__debug__" : Str)) = false := by decide)
    (he : starEach (e :: es) X.env = (false, eval e X.env) :: starEach es X.env := by rfl) (hpl : (backTo pos (starEach es X.env)).any (·.1) = false := by rfl) : PE X (.Call (.Name x p) (e :: es) [] pos) (fun σ H Q => t σ H fun vs H1 => tMkS C sp gV E vs [] H1 Q) := by
  refine ⟨fun pins s σ H Q I h => wpAny_Call_Name_kw (ld_glob I hg hm (PySem.W.callWith_K (h₀ := X.base) I.ok.mod.kin M.kp (thn (ha.run pos pins s σ H _ I h) fun us s1 ⟨vs, H1, I1, r, q⟩ => ⟨I1.kIn, ?_⟩) he hpl) hdb)⟩
  exact run_mkS (ws := []) M F hr hx I1 r .nil rfl q
/-- C(*e, k = v, ..) -/
theorem pe_mkSs (M : Mk X.K C f) (F : FnSt X.prog X.w X.K X.mg X.base CX k f ks gV sp) (hr : Room (k + 1) X.A) (hg : Gl X x) (hm : X.mg x = some (.ref C)) (hx : Passes CX X E) (he : PE X e te) (hkw : PK X kws tk) (hall : (backToKw pos (keywordEach kws X.env)).all (·.1.isSome) = true := by rfl)
    (hks : (backToKw pos (keywordEach kws X.env)).filterMap (·.1) = ks := by rfl) (hdb : (x == ("__debug__" : Str)) = false := by decide) (hst : starEach [.Starred e sp_] X.env = [(true, eval e X.env)] := by rfl) :
    PE X (.Call (.Name x p) [.Starred e sp_] kws pos) (fun σ H Q => te σ H fun y H1 => tk σ H1 fun zs H2 => ∃ a vs, y = .ref a ∧ (SqT X.K H2 a vs ∨ SqL X.K H2 a vs) ∧ zs.length = ks.length ∧ tMkS C sp gV E vs zs H2 Q) := by
  refine ⟨fun pins s σ H Q I h => wpAny_Call_Name_kw (ld_glob I hg hm ?_ hdb)⟩
  rw [hst]
  refine call_starkw rfl M.kp (lone_kw hall (thn (he.run pins s σ H _ I h) fun v s1 ⟨y, H1, I1, ry, q⟩ => thn (hkw.run pos pins s1 σ H1 _ I1 q) fun ws s2 ⟨zs, H2, I2, rz, a, vs, ey, hv, l2, q2⟩ => ?_))
  subst ey
  obtain rfl : v = Value.ref a := ry
  refine StX.star_any I2 hv fun us s3 I3 rv => ⟨I3.kIn, ?_⟩
  rw [hks]
  exact run_mkS M F hr hx I3 rv rz l2 q2
end
/-- a == b, a an instance with an own == that hands back a bool -/
def rOwn (K : PySem.W.Frag) (C : Addr) (sp : Sp) : R2 := fun x y H Q => ∃ (a dx : Addr) (fs : List (Str × V)) (tb : Value), x = .ref a ∧ H a = some (.ins C dx fs) ∧ TyX K H y tb ∧ PySem.W.notFirst K C tb = true ∧ sp [.ref a, y] H (fun v H' => (∃ b, v = .bl b) ∧ Q v H') (fun _ _ _ => False)
theorem op_own {X : Cx} {CX : CXT} {n : Nat} {C f : Addr} {fd : FuncData} {ps : List Str} {sp : Sp} (F : FnOk X.prog X.w X.K X.mg X.base CX n f fd ps sp) (hr : Room n X.A) (hs : PySem.W.findIn X.K (.ref C) "__eq__" = some (some (.ref f))) (hf : PySem.W.isFn X.K (.ref f) = true) (hb : Binds X.K fd ps []) (hx : Passes CX X (fun _ _ _ => False)) :
    OpR X (compareOp .Eq) (rOwn X.K C sp) := by
  intro pins s σ H x y v u Q I rx ry h
  obtain ⟨a, dx, fs, tb, rfl, ha, ty, nf, q⟩ := h
  cases rx
  show wpAny (model X.prog X.w) X.A (richCompare .Eq (.ref a) u) (EP X pins σ Q) X.xe s
  obtain ⟨mA, J, _⟩ := ins_get I.hok ha
  obtain ⟨od, J, _⟩ := J.look
  obtain ⟨Pz, Z, pz, _⟩ := kit_of I ry ty
  obtain ⟨m, hF⟩ := I.fr
  refine PySem.W.cmp_K (op := .Eq) hr.units0 hF I.ok.mod.kin J (Z.ty _ _ I.kIn pz) nf hs hf ?_
  have r2 : Vals [V.ref a, y] [Value.ref a, u] := .cons rfl (.cons ry .nil)
  refine thn (run_fn (dvs := []) (ds := []) F hr hb .nil hx I r2 q) fun w s' ⟨z, H', I', rz, ⟨b, ez⟩, qz⟩ => ?_
  subst ez
  obtain rfl : w = Value.bool b := rz
  exact ⟨.bl b, H', I', rfl, qz⟩
end Own

namespace Own
open PySem L2 PySem.HandSPX Builtin
section
variable {M : Model} {A : Around} {E : Value → Shared → Prop} {h : Heap} {g : Array GenState} {d : Drawn} {t : Nat} {os : OsState}
variable {nm q : Str} {C N : Addr} {bs bm bmB : List Value} {hdct : Bool} {sn : List Str} {sub : List Value} {ab : Bool} {col : Option Bool} {dd : Option Addr} {k0 k1 k2 k3 k5 : Option Value} {B newId initId : String}
/-- C(..) with keywords: the check ahead of the base's __new__ -/
theorem chk_new (F : ExcBaseFacts B newId initId bmB) (hT : ∀ X : String, bm.contains (.type X) = bmB.contains (.type X)) {rest : List Value} {kw : List (Str × Value)} {Q : Unit → Shared → Prop}
    (hC : h.get? C = some (excClassObj nm q C N bs bm hdct sn sub ab col dd k0 k1 k2 k3 k5 newId)) (hq : Q () ⟨h, g, d, t, os⟩) : wpAny M A (checkBuiltinCall newId ⟨.ref C :: rest, kw⟩) Q E ⟨h, g, d, t, os⟩ := by
  have c0 : (Value.ref C :: bm).contains (.type B) = true := by rw [List.contains_cons, hT, F.hasB, Bool.or_true]
  have s0 := F.noStar
  simp only [checkBuiltinCall, F.newKind, F.newSplit, F.newRow]
  repeat (first | refine wpAny_loadPart_at hC ?_ | (refine wpAny_isSubtype_exc hC ?_; rw [c0]) | refine wpAny_staticBase_exc hC ?_ | refine wpAny_madeBy_exc hC ?_ | simp only [bne_self_eq_false, Bool.false_eq_true, if_false] | wp_step)
  exact hq
theorem chk_type {rest : List Value} {kw : List (Str × Value)} {Q : Unit → Shared → Prop} (hC : h.get? C = some (excClassObj nm q C N bs bm hdct sn sub ab col dd k0 k1 k2 k3 k5 newId)) (hq : Q () ⟨h, g, d, t, os⟩) :
    wpAny M A (checkBuiltinCall "type.__call__" ⟨.ref C :: rest, kw⟩) Q E ⟨h, g, d, t, os⟩ := by
  have z := tc_sub
  have ty : (⟨h, g, d, t, os⟩ : Shared).TypeIs (.ref C) "type" := ⟨_, hC, rfl⟩
  simp only [checkBuiltinCall, tc_kind, tc_split]
  repeat (any_goals (first | assumption | with_reducible refine wpAny_loadPart_at hC ?_ | with_reducible refine wpAny_onRaise ?_ | with_reducible refine wpAny_map ?_ | wp_step))
end
section
variable {prog : Program} {w : World} {A : Around} {E : Value → Shared → Prop} {R : Result → Shared → Prop} {h : Heap} {g : Array GenState} {d : Drawn} {t : Nat} {os : OsState}
variable {nm q : Str} {C N : Addr} {bs bm bmB : List Value} {hdct : Bool} {sn : List Str} {sub : List Value} {ab : Bool} {col : Option Bool} {dd : Option Addr} {k0 k1 k2 k3 k5 : Option Value} {B newId initId : String}
/-- the object that __new__ lays -/
def mkHeap (h : Heap) (C : Addr) (rest : List Value) : Heap := (h.push (W.kdv_tup rest)).push (excO C h.objs.size)
theorem run_new (F : ExcBaseFacts B newId initId bmB) (hT : ∀ X : String, bm.contains (.type X) = bmB.contains (.type X)) {rest : List Value} {kw : List (Str × Value)}
    (hC : h.get? C = some (excClassObj nm q C N bs bm hdct sn sub ab col dd k0 k1 k2 k3 k5 newId)) (hq : R (.ok (.ret (.ref (h.objs.size + 1)))) ⟨mkHeap h C rest, g, d, t, os⟩) (hrest : rest.length ≤ sizeLine) :
    codeAny (model prog w) A (.builtin newId ⟨.ref C :: rest, kw⟩) R ⟨h, g, d, t, os⟩ := by
  have ends := F.ends
  have cB : (Value.ref C :: bm).contains (.type B) = true := by rw [List.contains_cons, hT, F.hasB, Bool.or_true]
  have cA : (Value.ref C :: bm).contains (.type "AttributeError") = false := by rw [List.contains_cons, hT, F.noAttr]; rfl
  have cN : (Value.ref C :: bm).contains (.type "NameError") = false := by rw [List.contains_cons, hT, F.noName]; rfl
  refine codeAny_builtinAt F.entry ?_
  unfold Builtin.«BaseException.__new__»
  refine wpAt_bind ?_
  show wpAt _ _ _ (stack >>= _) _ _ _
  refine wpAt_bind (wpAt_stack fun p below => wpAt_of_wpAny ?_)
  wp_walk
  refine wpAt_of_wpAny ?_
  rw [F.owner]
  repeat (first | with_reducible refine wpAny_madeHere_exc F.canon hC ?_ | with_reducible refine wpAny_loadPart_at hC ?_ | (with_reducible refine wpAny_isSubtype_exc hC ?_; first | rw [cB] | rw [cA] | rw [cN]) | wp_step)
  show R _ _
  rw [Heap.size_push]
  exact hq
theorem mk_keep {h : Heap} {C : Addr} {rest : List Value} : ∀ b o, h.get? b = some o → (mkHeap h C rest).get? b = some o := fun _ _ e => Heap.get?_push_of_some _ (Heap.get?_push_of_some _ e)
theorem mk_at {h : Heap} {C : Addr} {rest : List Value} : (mkHeap h C rest).get? (h.objs.size + 1) = some (excO C h.objs.size) := by
  unfold mkHeap
  heap_get
/-- type.__call__ upon an own exception class with an own __init__, keywords too -/
theorem run_type (F : ExcBaseFacts B newId initId bmB) (hT : ∀ X : String, bm.contains (.type X) = bmB.contains (.type X)) {rest : List Value} {kw : List (Str × Value)} {fI : Addr} {Q : Fin → Shared → Prop}
    (hC : h.get? C = some (excClassObj nm q C N bs bm hdct sn sub ab col dd k0 k1 k2 k3 k5 newId)) (hi : W.Looks (model prog w) h (typeLookup (.ref C) "__init__") (some (.ref fI))) (hb : ∀ self, W.Looks (model prog w) h (bindSpecial (.ref fI) self) (.ref fI, [self])) (hrest : rest.length ≤ sizeLine)
    (hq : codeAny (model prog w) A (.call (.ref fI) ⟨.ref (h.objs.size + 1) :: rest, kw⟩) (fun r s' => match r with | .ok (.ret v) => v = .none ∧ Q (.done (.ret (.ref (h.objs.size + 1)))) s' | .ok _ => False | .error e => E e s') ⟨mkHeap h C rest, g, d, t, os⟩) :
    wpAny (model prog w) A (Builtin.«type.__call__» ⟨.ref C :: rest, kw⟩) Q E ⟨h, g, d, t, os⟩ := by
  repeat (first | with_reducible refine wpAny_loadPart_at hC ?_ | with_reducible refine wpAny_madeBy_exc hC ?_ | wp_step)
  refine codeAny_call_builtin_code (Code.quiet_builtin _ F.quiet) (chk_new F hT hC (run_new F hT hC ?_ hrest))
  show wpAny _ _ _ _ _ _
  have cC : (Value.ref C :: bm).contains (.ref C) = true := by simp
  unfold isInstance
  repeat (first | with_reducible refine wpAny_loadPart_at mk_at ?_ | (with_reducible refine wpAny_isSubtype_exc (mk_keep _ _ hC) ?_; rw [cC]) | wp_step)
  show wpAny _ _ (typeLookup (.ref C) _) _ _ _
  refine (hi.keeps mk_keep).at (wpAny_holding (wpAny_bind (((hb (.ref (h.objs.size + 1))).keeps mk_keep).at (wpAny_bind (wpAny_call (codeAny_mono hq fun r s' z => ?_))))))
  rcases r with e | (v | _ | _ | _) <;> first | exact z | exact z.elim | skip
  obtain ⟨rfl, z⟩ := z
  first
    | exact wpAny_pure (wpAny_pure z)
    | (wp_walk; exact z)
theorem run_call (F : ExcBaseFacts B newId initId bmB) (hT : ∀ X : String, bm.contains (.type X) = bmB.contains (.type X)) {rest : List Value} {kw : List (Str × Value)} {fI : Addr}
    (hC : h.get? C = some (excClassObj nm q C N bs bm hdct sn sub ab col dd k0 k1 k2 k3 k5 newId)) (hi : W.Looks (model prog w) h (typeLookup (.ref C) "__init__") (some (.ref fI))) (hb : ∀ self, W.Looks (model prog w) h (bindSpecial (.ref fI) self) (.ref fI, [self])) (hrest : rest.length ≤ sizeLine)
    (hq : codeAny (model prog w) (A.under (.builtin "type.__call__" ⟨.ref C :: rest, kw⟩)) (.call (.ref fI) ⟨.ref (h.objs.size + 1) :: rest, kw⟩) (W.InitBack (h.objs.size + 1) R) ⟨mkHeap h C rest, g, d, t, os⟩) :
    codeAny (model prog w) A (.call (.ref C) ⟨rest, kw⟩) R ⟨h, g, d, t, os⟩ := by
  have z1 := tc_lookup
  have z2 := tc_bind (.ref C)
  have ty : (⟨h, g, d, t, os⟩ : Shared).TypeIs (.ref C) "type" := ⟨_, hC, rfl⟩
  refine codeAny_of_tree ?_
  show wpAny _ _ (callAny (.ref C) _) _ _ _
  repeat (any_goals (first | assumption | with_reducible refine wpAny_loadPart_at hC ?_ | wp_step))
  refine ⟨rfl, codeAny_call_builtin_at (Code.quiet_builtin _ (by decide +kernel)) entry_typeCall (chk_type hC (run_type F hT hC hi hb hrest (codeAny_mono hq fun r s' z => ?_)))⟩
  rcases r with e | (v | _ | _ | _) <;> exact z
end

/-- what the written part says of an own exception class over a built-in one -/
structure ExK (K : PySem.W.Frag) (C : Addr) : Prop where
  cls : ∃ B newId initId bmB, ExcBaseFacts B newId initId bmB ∧ StoreFacts B bmB "object.__setattr__" "object" ∧ PySem.W.excInitIn K C bmB newId = true ∧ PySem.W.excOver K C bmB = true
  sa : PySem.W.findIn K (.ref C) "__setattr__" = some (some (.builtin "object.__setattr__"))
  ga : PySem.W.findIn K (.ref C) "__getattribute__" = some (some (.builtin "BaseException.__getattribute__"))
  gg : PySem.W.findIn K (.ref C) "__getattr__" = some none
  exC : PySem.W.subIn K (.ref C) (.type "BaseException") = some true
  tyC : PySem.W.typeIn K (.ref C) = some (.type "type")
  kC : PySem.W.keepIn K (.ref C) = true
  hd : PySem.W.hasDictIn K C = true
section
variable {X : Cx} {pins : List (Addr × Obj)} {σ : L2.St} {H : Hp} {s : Shared} {a C dx : Addr} {f : Str} {y : V} {u : Value} {fs : List (Str × V)} {Q : Unit → Shared → Prop} {E : Value → Shared → Prop} {A : Around}
/-- a further store into an exception's own dict -/
theorem stx_old (T : ExK X.K C) (I : Inv X pins σ H s) (e : H a = some (exo a C (some dx))) (ed : H dx = some (exd dx fs)) (hl : fs.length ≤ 900) (hno : PySem.W.findIn X.K (.ref C) f = some none) (ry : RelV y u)
    (h : ∀ s', Inv X pins σ (upd H dx (exd dx ((f, y) :: fs))) s' → Q () s') : wpAny (model X.prog X.w) A (setAttr (.ref a) f u) Q E s := by
  obtain ⟨B, newId, initId, bmB, FB, SF, hin, ho⟩ := T.cls
  obtain ⟨cd, hc, hd'⟩ := PySem.W.any_some T.hd
  obtain ⟨t1, hx⟩ := exo_at I.hok e
  obtain ⟨mA, hns, rel⟩ := exd_at I.hok ed
  have hw := within_of rel
  obtain ⟨hp, g, d, t, os⟩ := s
  obtain ⟨oD, _, _, hoD, _, _⟩ := hns.count hw
  have J : PySem.W.InstAt hp a { cls := .ref C, dict := some dx, data := .fields #[.ref t1, .none, .none, .none, .bool false, .none] } C (some oD) := ⟨hx, rfl, rfl, hoD⟩
  refine PySem.W.set_plain I.kIn J T.sa (PySem.W.osa_openX SF I.kIn J ho (by unfold PySem.W.takerIn; rw [hno]; rfl) fun b => ?_)
  refine wpAny_bind (wpAny_pure (wpAny_bind (wpAny_bind (wpAny_loadPart hx (wpAny_bind ((PySem.W.looks_clsIn I.kIn hc).at ?_))))))
  rw [hd']
  refine wpAny_pure (a := some dx) ?_
  refine PySem.OEX.store_in_old hns hw (by rw [List.length_map]; omega) fun h' tk' hn' hs => ?_
  exact h _ (I.write (t' := tk') (x := dx) (e := dx) (o := exd dx ((f, y) :: fs)) (by rw [ed]; exact True.intro) (.inl rfl) (fun b o hb ho => (hs.2 b hb).trans ho) (by obtain ⟨o, _, _, z, _⟩ := id hn'; exact ⟨o, z⟩) (exd_ok hn' (relO_put ry rel)))
theorem stx_new (T : ExK X.K C) (I : Inv X pins σ H s) (e : H a = some (exo a C none)) (hno : PySem.W.findIn X.K (.ref C) f = some none) (ry : RelV y u)
    (h : ∀ dx s', H dx = none → dx ≠ a → Inv X pins σ (upd (upd H dx (exd dx [(f, y)])) a (exo a C (some dx))) s' → Q () s') : wpAny (model X.prog X.w) A (setAttr (.ref a) f u) Q E s := by
  obtain ⟨B, newId, initId, bmB, FB, SF, hin, ho⟩ := T.cls
  obtain ⟨cd, hc, hd'⟩ := PySem.W.any_some T.hd
  obtain ⟨t1, hx⟩ := exo_at I.hok e
  obtain ⟨hp, g, d, t, os⟩ := s
  have J : PySem.W.InstAt hp a { cls := .ref C, dict := none, data := .fields #[.ref t1, .none, .none, .none, .bool false, .none] } C none := ⟨hx, rfl, rfl, trivial⟩
  refine PySem.W.set_plain I.kIn J T.sa (PySem.W.osa_openX SF I.kIn J ho (by unfold PySem.W.takerIn; rw [hno]; rfl) fun b => ?_)
  refine wpAny_bind (wpAny_pure (wpAny_bind (PySem.W.instanceDict_exc hx (PySem.W.looks_clsIn I.kIn hc) hd' ?_)))
  show wpAny _ _ (Builtin.ObjectAttr.storeInDict hp.objs.size _ _ _) _ _ _
  have hax : a < hp.objs.size := Heap.lt_size hx
  have nH : H hp.objs.size = none := I.hok.fresh (Nat.le_refl _)
  refine PySem.HandSPX.store_in_new (hp := (hp.push (PySem.W.dictOf [] 0)).update a fun o => { o with dict := some hp.objs.size }) ?_ fun h' tk' hn' hs => ?_
  · exact ⟨_, #[], _, (Heap.get?_update_ne _ _ _ _ (Nat.ne_of_gt hax)).trans (Heap.get?_push_at rfl rfl), rfl, fun e he => absurd he (by simp), fun _ => rfl⟩
  · have kp : ∀ b o, b ≠ a → hp.get? b = some o → h'.get? b = some o := fun b o hb ho => (hs.2 b (Nat.ne_of_lt (Heap.lt_size ho))).trans ((Heap.get?_update_ne _ _ _ _ hb).trans (Heap.get?_push_of_some _ ho))
    have hx' : h'.get? a = some { cls := .ref C, dict := some hp.objs.size, data := .fields #[.ref t1, .none, .none, .none, .bool false, .none] } :=
      (hs.2 a (Nat.ne_of_lt hax)).trans (Heap.get?_update_self _ (Heap.get?_push_of_some _ hx) rfl)
    have na : ∀ {b : Addr}, H b = none → b ≠ a := fun n z => by rw [z, e] at n; cases n
    have nd : ∀ {b : Addr} {o : Obj}, hp.get? b = some o → b ≠ hp.objs.size := fun q => Nat.ne_of_lt (Heap.lt_size q)
    refine h hp.objs.size _ nH (Nat.ne_of_gt hax) (I.un (t' := tk') ⟨fun b o q n _ _ => kp b o (na n) q, fun b o q n _ _ => ⟨o.slots, kp b o (na n) q⟩, fun b o q n _ => by rw [upd_ne (na n), upd_ne (nd q)]; exact n, fun b o q _ => ?_,
      fun b xs q => by rw [upd_ne (at_ne e q exo_tup), upd_ne (ne_of_none q nH)]; exact q, fun b o v q => by rw [upd_ne (at_ne e q exo_frz), upd_ne (ne_of_none q nH)]; exact q, fun b ps q => ⟨#[], by rw [upd_ne (at_ne e q exo_tbl), upd_ne (ne_of_none q nH), q]; simp⟩⟩ fun b o q => ?_)
    · by_cases hb : b = a
      · exact ⟨_, hb ▸ hx'⟩
      · exact ⟨o, kp b o hb q⟩
    · by_cases hb : b = a
      · subst hb
        rw [upd_same] at q
        cases q
        exact exo_ok hx'
      · rw [upd_ne hb] at q
        by_cases hd : b = hp.objs.size
        · subst hd
          rw [upd_same] at q
          cases q
          exact exd_ok hn' (relO_put (fs := []) ry fun g => True.intro)
        · rw [upd_ne hd] at q
          refine (I.hok b o q).stay (fun c v hc z => kp c v ?_ z) (fun c hc => ?_) fun c xs hc => ?_
          · rcases hc with hc | hc
            · exact hc ▸ hb
            · exact at_ne e hc exo_own
          · rw [upd_ne (at_ne e hc exo_own), upd_ne (ne_of_none hc nH)]; exact hc
          · rw [upd_ne (at_ne e hc exo_tup), upd_ne (ne_of_none hc nH)]; exact hc
end

/-- self.f = e, self an exception that is being made -/
def tStx (K : PySem.W.Frag) (f : Str) (to te : TE) : TS := fun D σ H => te σ H fun y H1 => to σ H1 fun x H2 => ∃ a C : Addr, x = .ref a ∧ ExK K C ∧ PySem.W.findIn K (.ref C) f = some none ∧
  ((H2 a = some (exo a C none) ∧ ∀ dx, H2 dx = none → dx ≠ a → D.nx σ (upd (upd H2 dx (exd dx [(f, y)])) a (exo a C (some dx)))) ∨ ∃ (dx : Addr) (fs : List (Str × V)), H2 a = some (exo a C (some dx)) ∧ H2 dx = some (exd dx fs) ∧ fs.length ≤ 900 ∧ D.nx σ (upd H2 dx (exd dx ((f, y) :: fs))))
/-- e.f, e an exception that stands -/
def tGex (K : PySem.W.Frag) (f : Str) (te : TE) : TE := fun σ H Q => te σ H fun x H1 => ∃ (a C d : Addr) (fs : List (Str × V)) (v : V), x = .ref a ∧ H1 a = some (exo a C (some d)) ∧ H1 d = some (exd d fs) ∧ ExK K C ∧ PySem.W.findIn K (.ref C) f = some none ∧ fs.lookup f = some v ∧ Q v H1
/-- C(..), the exception stands behind it -/
def tMkX (C : Addr) (sp : Sp) (ta : TA) : TE := fun σ H Q => ta σ H fun vs H1 => vs.length ≤ 1000 ∧ ∀ a, H1 a = none → sp (.ref a :: vs) (upd H1 a (exo a C none)) (fun v H2 => v = .non ∧ Q (.ref a) H2) (fun _ _ _ => False)
section
variable {X : Cx} {o e : Expr} {es : List Expr} {kws : List Keyword} {to te : TE} {ta tk : TA} {f x : Str} {p p' pos : Pos} {CX : CXT} {C fI : Addr} {k : Nat} {fd : FuncData} {ps ks : List Str} {sp : Sp} {g : List Value → List Value → List Value} {gV : List V → List V → List V}
theorem ps_stx (ho : PE X o to) (he : PE X e te) (hs : swapsWith e (some (.Attribute o f p')) pos.line X.env = pure false := by rfl) : PS X (.Assign [.Attribute o f p'] e pos) (tStx X.K f to te) := by
  refine ⟨fun pins s σ H D I h => plainObj_wpAny_Assign_Attribute (thn (he.run pins s σ H _ I h) fun v s1 ⟨y, H1, I1, r1, q1⟩ => thn (ho.run pins s1 σ H1 _ I1 q1) fun u s2 ⟨x, H2, I2, r2, a, C, ex, T, hno, q⟩ => ?_) hs⟩
  subst ex
  obtain rfl : u = Value.ref a := r2
  rcases q with ⟨ea, q⟩ | ⟨dx, fs, ea, ed, hl, q⟩
  · exact stx_new T I2 ea hno r1 fun dx s' n ne J => ⟨σ, _, J, q dx n ne⟩
  · exact stx_old T I2 ea ed hl hno r1 fun s' J => ⟨σ, _, J, q⟩
theorem pe_gex (he : PE X e te) (hb : attributeBase e f X.env (eval e X.env) = eval e X.env := by rfl) : PE X (.Attribute e f pos) (tGex X.K f te) := by
  refine ⟨fun pins s σ H Q I h => attr_of hb (thn (he.run pins s σ H _ I h) fun u s1 ⟨x, H1, I1, rx, a, C, d, fs, v, ex, ea, ed, T, hno, l, q⟩ => ?_)⟩
  subst ex
  obtain rfl : u = Value.ref a := rx
  obtain ⟨t1, hx⟩ := exo_at I1.hok ea
  obtain ⟨mA, hns, hr⟩ := exd_at I1.hok ed
  obtain ⟨od, ho, hl⟩ := lookIn_ns hns
  obtain ⟨u, hu, ru⟩ := RelO.some_of (v := v) (o := mA f) (by rw [← l]; exact hr f)
  have J : PySem.W.InstAt s1.heap a { cls := .ref C, dict := some d, data := .fields #[.ref t1, .none, .none, .none, .bool false, .none] } C (some od) := ⟨hx, rfl, rfl, ho⟩
  exact HandSPX.exc_get I1.kIn J T.ga T.gg T.exC (PySem.W.findObj_own T.hd hno rfl (by rw [hl, hu])) (handed_of ru) ⟨v, H1, I1.tok _, ru, q⟩
theorem run_mkx {pins : List (Addr × Obj)} {σ : L2.St} {H : Hp} {s : Shared} {Q : VK} {us us' : List Value} {kw : List (Str × Value)} {vs' : List V} (T : ExK X.K C) (iC : PySem.W.findIn X.K (.ref C) "__init__" = some (some (.ref fI))) (tI : PySem.W.typeIn X.K (.ref fI) = some (.type "function"))
    (F : FnOk X.prog X.w X.K X.mg X.base CX k fI fd ps sp) (hr : Room (k + 1) X.A) (hx : Passes CX X (fun _ _ _ => False)) (I : Inv X pins σ H s) (hl : us.length ≤ sizeLine)
    (hb : ∀ s' : Shared, X.K.In s'.heap → BindsTo s' fd ⟨.ref (s.heap.objs.size + 1) :: us, kw⟩ (ps.zip us')) (r : Vals vs' us') (h : ∀ a, H a = none → a = s.heap.objs.size + 1 → sp vs' (upd H a (exo a C none)) (fun v H2 => v = .non ∧ Q (.ref a) H2) (fun _ _ _ => False)) :
    wpAny (model X.prog X.w) X.A (call (.ref C) us kw) (EP X pins σ Q) X.xe s := by
  obtain ⟨B, newId, initId, bmB, FB, SF, hin, ho⟩ := T.cls
  obtain ⟨hp, g, dr, tk, os⟩ := s
  have hsz : hp.objs.size ≤ hp.objs.size + 1 := Nat.le_succ _
  obtain ⟨nm, N, qn, bs, bm, hdct, sn, sub, ab, col, dd, k0, k1, k2, k3, k5, hC, hT⟩ := PySem.W.excInit_of I.kIn hin
  have hq := h (hp.objs.size + 1) (I.hok.fresh hsz) rfl
  have I2 : Inv X pins σ (upd H (hp.objs.size + 1) (exo (hp.objs.size + 1) C none)) ⟨mkHeap hp C us, g, dr, tk, os⟩ := I.laid (t' := tk) (a := hp.objs.size + 1) (o := exo (hp.objs.size + 1) C none) (h' := mkHeap hp C us) mk_keep hsz (exo_ok mk_at)
  refine wpAny_call (run_call FB hT hC (PySem.W.looks_findIn I.kIn iC) (fun self => PySem.W.bind_fn I.kIn self tI) hl (codeAny_mono (F.run _ X.stack _ _ ⟨Value.ref (hp.objs.size + 1) :: us, kw⟩ us' _ _ (fun _ _ _ => False) (hr.make C us kw) (I2.env0.make C us kw) (hb _ I2.kIn) r hq) fun r s' hq' => ?_))
  cases r with
  | error er => exact hx pins σ _ _ er s' I2 hq'
  | ok fl =>
    cases fl with
    | ret u =>
      obtain ⟨v, H', I3, rv, ev, q3⟩ := I2.after hq'
      subst ev
      exact ⟨rv, ⟨V.ref (hp.objs.size + 1), H', I3, rfl, q3⟩⟩
    | next => exact False.elim hq'
    | brk => exact False.elim hq'
    | cont => exact False.elim hq'
/-- C(e, ..) -/
theorem pe_mkx (T : ExK X.K C) (iC : PySem.W.findIn X.K (.ref C) "__init__" = some (some (.ref fI))) (tI : PySem.W.typeIn X.K (.ref fI) = some (.type "function")) (F : FnOk X.prog X.w X.K X.mg X.base CX k fI fd ps sp) (hr : Room (k + 1) X.A) (hb : Binds X.K fd ps []) (hx : Passes CX X (fun _ _ _ => False))
    (hg : Gl X x) (hm : X.mg x = some (.ref C)) (ha : PA X (e :: es) ta) (hlen : ∀ vs H Q E, sp vs H Q E → vs.length = ps.length) (hdb : (x == ("__debug__" : Str)) = false := by decide) (he : starEach (e :: es) X.env = (false, eval e X.env) :: starEach es X.env := by rfl) (hpl : (backTo pos (starEach es X.env)).any (·.1) = false := by rfl) :
    PE X (.Call (.Name x p) (e :: es) [] pos) (tMkX C sp ta) := by
  refine ⟨fun pins s σ H Q I h => wpAny_Call_Name_kw (ld_glob I hg hm (PySem.W.callWith_K (h₀ := X.base) I.ok.mod.kin T.kC (thn (ha.run pos pins s σ H _ I h) fun us s1 ⟨vs, H1, I1, r1, hz, q1⟩ => ⟨I1.kIn, ?_⟩) he hpl) hdb)⟩
  have el := Paired.length r1
  have hl : us.length ≤ sizeLine := by rw [← el, sizeLine_eq]; omega
  have r2 : Vals (V.ref (s1.heap.objs.size + 1) :: vs) (Value.ref (s1.heap.objs.size + 1) :: us) := .cons rfl r1
  show wpAny _ _ (call (.ref C) us) _ _ _
  refine run_mkx T iC tI F hr hx I1 hl (us' := Value.ref (s1.heap.objs.size + 1) :: us) (fun s' X' => ?_) r2 (fun a hn ea => by subst ea; exact q1 _ hn)
  have z := hb s' (Value.ref (s1.heap.objs.size + 1) :: us) X' (by
    rw [List.append_nil, ← r2.length]
    exact hlen _ _ _ _ (q1 (s1.heap.objs.size + 1) (I1.hok.fresh (Nat.le_succ _))))
  rw [List.append_nil] at z
  exact z
/-- C() -/
theorem pe_mkx0 (T : ExK X.K C) (iC : PySem.W.findIn X.K (.ref C) "__init__" = some (some (.ref fI))) (tI : PySem.W.typeIn X.K (.ref fI) = some (.type "function")) (F : FnOk X.prog X.w X.K X.mg X.base CX k fI fd ps sp) (hr : Room (k + 1) X.A) (hb : Binds X.K fd ps []) (hx : Passes CX X (fun _ _ _ => False))
    (hg : Gl X x) (hm : X.mg x = some (.ref C)) (hlen : ps.length = 1) (hdb : (x == ("__debug__" : Str)) = false := by decide) : PE X (.Call (.Name x p) [] [] pos) (tMkX C sp tNil) := by
  refine ⟨fun pins s σ H Q I h => wpAny_Call_Name_kw (ld_glob I hg hm (PySem.W.callWith_K0 I.kIn T.kC ?_) hdb)⟩
  obtain ⟨_, q1⟩ := h
  show wpAny _ _ (call (.ref C) []) _ _ _
  refine run_mkx (us := []) T iC tI F hr hx I (by decide) (vs' := [V.ref (s.heap.objs.size + 1)]) (us' := [Value.ref (s.heap.objs.size + 1)]) (fun s' X' => ?_) (.cons rfl .nil) (fun a hn ea => by subst ea; exact q1 _ hn)
  have z := hb s' [Value.ref (s.heap.objs.size + 1)] X' (by rw [hlen]; rfl)
  exact z
/-- C(k = v) -/
theorem pe_mkxK (T : ExK X.K C) (iC : PySem.W.findIn X.K (.ref C) "__init__" = some (some (.ref fI))) (tI : PySem.W.typeIn X.K (.ref fI) = some (.type "function")) (F : FnOk X.prog X.w X.K X.mg X.base CX k fI fd ps sp) (hr : Room (k + 1) X.A) (hb : KBn X.K fd ps 1 ks (fun us ws => us ++ ws) (fun vs zs => vs ++ zs)) (hx : Passes CX X (fun _ _ _ => False))
    (hg : Gl X x) (hm : X.mg x = some (.ref C)) (hkw : PK X kws tk) (hlen : ∀ vs H Q E, sp vs H Q E → vs.length = ks.length + 1) (hall : (backToKw pos (keywordEach kws X.env)).all (·.1.isSome) = true := by rfl) (hks : (backToKw pos (keywordEach kws X.env)).filterMap (·.1) = ks := by rfl) (hdb : (x == ("__debug__" : Str)) = false := by decide)
    (hpl : ((backTo pos (starEach [] X.env)).any (·.1) || (backToKw pos (keywordEach kws X.env)).any (·.1.isNone)) = false := by rfl) : PE X (.Call (.Name x p) [] kws pos) (tMkX C sp tk) := by
  refine ⟨fun pins s σ H Q I h => wpAny_Call_Name_kw (ld_glob I hg hm (PySem.W.callWith_KW0 (h₀ := X.base) I.ok.mod.kin T.kC hall (thn (hkw.run pos pins s σ H _ I h) fun ws s2 ⟨zs, H2, I2, rz, hz, q2⟩ => ⟨I2.kIn, ?_⟩) hpl) hdb)⟩
  rw [hks]
  have el : zs.length = ks.length := by
    have z := hlen _ _ _ _ (q2 (s2.heap.objs.size + 1) (I2.hok.fresh (Nat.le_succ _)))
    exact Nat.succ.inj z
  show wpAny _ _ (call (.ref C) [] (ks.zip ws)) _ _ _
  exact run_mkx (us := []) (kw := ks.zip ws) T iC tI F hr hx I2 (Nat.zero_le _) (vs' := V.ref (s2.heap.objs.size + 1) :: zs) (us' := Value.ref (s2.heap.objs.size + 1) :: ws) (fun s' X' => hb.to s' [Value.ref (s2.heap.objs.size + 1)] ws X' rfl (rz.length.symm.trans el)) (.cons rfl rz) (fun a hn ea => by subst ea; exact q2 _ hn)
end

/-- what isinstance asks of the class of an exception -/
structure ExI (K : PySem.W.Frag) (C : Addr) : Prop where
  cc : PySem.W.findIn K (.ref C) "__class__" = some (some (.builtin "object.__class__"))
  gn : PySem.W.specialIn K (.builtin "object.__class__") "__get__" = some (some (.builtin "getset_descriptor.__get__"))
  tk : PySem.W.takesIn K (.builtin "object.__class__") = some true
  mo : PySem.W.mroIn K C (.type "object") = some true
/-- isinstance(e, c), e an exception that stands -/
def rIsX (K : PySem.W.Frag) : List V → Hp → VK → Prop := fun xs H Q => ∃ (a C d : Addr) (fs : List (Str × V)) (c : V) (u : Value) (b : Bool), xs = [.ref a, c] ∧ H a = some (exo a C (some d)) ∧ H d = some (exd d fs) ∧ ExK K C ∧ ExI K C ∧ ClsV c u ∧ PySem.W.kitOne K (.ref C) u = some b ∧ Q (.bl b) H
theorem call_isX {X : Cx} : CallR X (.builtin "isinstance") (rIsX X.K) := by
  intro pins s σ H xs us Q I r h
  obtain ⟨a, C, d, fs, c, u, b, rfl, ha, hd, T, TI, k, e, q⟩ := h
  obtain ⟨u1, u2, rfl, r1, r2⟩ := vals2 r
  have e2 := k.eq r2
  subst e2
  cases (show u1 = Value.ref a from r1)
  obtain ⟨t1, hx⟩ := exo_at I.hok ha
  obtain ⟨mA, hns, hr⟩ := exd_at I.hok hd
  obtain ⟨od, ho, hl⟩ := lookIn_ns hns
  obtain ⟨cd, hc, _⟩ := PySem.W.any_some T.hd
  have J : PySem.W.InstAt s.heap a { cls := .ref C, dict := some d, data := .fields #[.ref t1, .none, .none, .none, .bool false, .none] } C (some od) := ⟨hx, rfl, rfl, ho⟩
  exact PySem.W.kia_one (PySem.W.kitx_exc (by rw [hc]; rfl) T.ga T.gg T.exC TI.cc TI.gn TI.tk TI.mo) I.kIn J e (fun z => nomatch z) fun tk => ⟨.bl b, H, I.tok tk, rfl, q⟩
end Own

namespace Own
open PySem L2 PySem.HandSPX PyProof.Rows
section
variable {X : Cx} {e : Expr} {es : List Expr} {ta : TA} {x : Str} {p pos : Pos} {CX : CXT} {C fI : Addr} {k : Nat} {fd : FuncData} {ps : List Str} {sp : Sp}
/-- C(e, ..) that is to be raised -/
def tPmk (C : Addr) (sp : Sp) (ta : TA) : L2.St → Hp → XK → Prop := fun σ H Q => ta σ H fun vs H1 => vs.length ≤ 1000 ∧ ∀ a, H1 a = none → sp (.ref a :: vs) (upd H1 a (exo a C none))
  (fun v H2 => v = .non ∧ ∃ (d : Addr) (fs : List (Str × V)), H2 a = some (exo a C (some d)) ∧ H2 d = some (exd d fs) ∧ H1 d = none ∧ Q (.ref C) (some d) (upd (del H2 a) d (.xd fs))) (fun _ _ _ => False)
theorem pmk_mkx (T : ExK X.K C) (iC : PySem.W.findIn X.K (.ref C) "__init__" = some (some (.ref fI))) (tI : PySem.W.typeIn X.K (.ref fI) = some (.type "function"))
    (F : FnOk X.prog X.w X.K X.mg X.base CX k fI fd ps sp) (hr : Room (k + 1) X.A) (hb : Binds X.K fd ps []) (hx : Passes CX X (fun _ _ _ => False)) (hg : Gl X x) (hm : X.mg x = some (.ref C)) (ha : PA X (e :: es) ta)
    (hdb : (x == ("__debug__" : Str)) = false := by decide) (he : starEach (e :: es) X.env = (false, eval e X.env) :: starEach es X.env := by rfl) (hpl : (backTo pos (starEach es X.env)).any (·.1) = false := by rfl) :
    L2.PMk X (.Call (.Name x p) (e :: es) [] pos) (tPmk C sp ta) := by
  intro pins s σ H Q I h
  obtain ⟨B, newId, initId, bmB, FB, SF, hin, ho⟩ := T.cls
  refine wpAny_Call_Name_kw (ld_glob I hg hm ?_ hdb)
  refine PySem.W.callWith_K (h₀ := X.base) I.ok.mod.kin T.kC (thn (ha.run pos pins s σ H _ I h) fun us s1 ⟨vs, H1, I1, r1, hz, q1⟩ => ⟨I1.kIn, ?_⟩) he hpl
  show wpAny _ _ (call (.ref C) us) _ _ _
  obtain ⟨hp, g, dr, tk, os⟩ := s1
  obtain ⟨nm, N, qn, bs, bm, hdct, sn, sub, ab, col, dd, k0, k1, k2, k3, k5, hC, hT⟩ := PySem.W.excInit_of I1.kIn hin
  have hsz : hp.objs.size ≤ hp.objs.size + 1 := Nat.le_succ _
  have hn : H1 (hp.objs.size + 1) = none := I1.hok.fresh hsz
  have hq := q1 (hp.objs.size + 1) hn
  have I2 : Inv X pins σ (upd H1 (hp.objs.size + 1) (exo (hp.objs.size + 1) C none)) ⟨mkHeap hp C us, g, dr, tk, os⟩ := I1.laid (t' := tk) (a := hp.objs.size + 1) (o := exo (hp.objs.size + 1) C none) (h' := mkHeap hp C us) mk_keep hsz (exo_ok mk_at)
  have r2 : Vals (V.ref (hp.objs.size + 1) :: vs) (Value.ref (hp.objs.size + 1) :: us) := .cons rfl r1
  have hl : (Value.ref (hp.objs.size + 1) :: us ++ []).length = ps.length := by
    have e := r2.length
    rw [F.len _ _ _ _ hq] at e
    rw [List.append_nil]
    exact e.symm
  have hus : us.length ≤ sizeLine := by
    rw [← Paired.length r1, sizeLine_eq]
    omega
  have hbb := hb ⟨mkHeap hp C us, g, dr, tk, os⟩ (Value.ref (hp.objs.size + 1) :: us) I2.kIn hl
  rw [List.append_nil] at hbb
  refine wpAny_call (run_call FB hT hC (PySem.W.looks_findIn I1.kIn iC) (fun self => PySem.W.bind_fn I1.kIn self tI) hus (codeAny_mono (F.run _ X.stack _ _ ⟨Value.ref (hp.objs.size + 1) :: us, []⟩ (Value.ref (hp.objs.size + 1) :: us) _ _ (fun _ _ _ => False) (hr.make C us []) (I2.env0.make C us []) hbb r2 hq) fun r s' hq' => ?_))
  cases r with
  | error er => exact hx pins σ _ _ er s' I2 hq'
  | ok fl =>
    cases fl with
    | ret u =>
      obtain ⟨v, H2, os2, bare2, un2, hok2, rv, ev, d, fs, ea, ed, hd1, q2⟩ := hq'
      subst ev
      obtain ⟨h2, g2, d2, t2, os'⟩ := s'
      exact ⟨rv, mk_end (raises_own T.exC T.tyC) I1 hsz mk_keep un2 hok2 os2 bare2 ea ed hd1 q2⟩
    | next => exact False.elim hq'
    | brk => exact False.elim hq'
    | cont => exact False.elim hq'
end
end Own

namespace Own
open PySem L2 PySem.HandSPX PyProof.Rows
theorem flying_push {B : Heap} {l : List Env} {a : Addr} {Z : Obj → Prop} {h : Heap} {o : Obj} (f : FlyingZ B l a Z h) : FlyingZ B l a Z (h.push o) := by
  obtain ⟨k1, k2, k3, oe, vs, T, oT, ts', he, hz, hd, h1, hr1, hr2, hr3, hr4, hr5⟩ := f
  have kp : ∀ b u, h.get? b = some u → (h.push o).get? b = some u := fun b u z => Heap.get?_push_of_some _ z
  exact ⟨fun b u z => kp b u (k1 b u z), k2, Heap.FunFrames.of_keeps (fun b u e _ => ⟨u, kp b u e, rfl⟩) k3, oe, vs, T, oT, ts', kp _ _ he, hz, hd, h1, hr1, hr2, kp _ _ hr3, hr4, hr5⟩
/-- what 'except (x1, x2, x3) as n' wishes of an exception of the body, which one of the classes catches -/
def wTup (K : PySem.W.Frag) (cs : List Value) (i : Nat) (ts : Addr → Value → Option Addr → TS) (D : Ends) : WX := fun cls d σ H =>
  PySem.W.exmAny K cls cs = some true ∧ ∀ a, H a = none → ts a cls d { nx := fun σ' H' => D.nx (σ'.set i none) H', rt := D.rt, bk := fun σ' H' => D.bk (σ'.set i none) H', ct := fun σ' H' => D.ct (σ'.set i none) H' } (σ.set i (some (.ref a))) H
section
variable {X : Cx} {x1 x2 x3 n : Str} {c1 c2 c3 : Value} {i kk : Nat} {body suite : List Stmt} {b₀ : Stmt} {p1 p2 p3 np pos pos' : Pos} {tb : WX → TS} {ts : Addr → Value → Option Addr → TS}
theorem ps_try_tup3 (hs : X.stack = X.env :: X.outer) (hf : X.env.frame = some X.env.locals) (hN : X.N.Nodup) (hi : X.N[i]? = some n) (hln : X.env.kindOf n = some .local) (hc1 : Names X x1 c1) (hc2 : Names X x2 c2) (hc3 : Names X x3 c3)
    (hb : ∀ (W : WX) (pn : List (Addr × Obj)) (xe : Value → Shared → Prop), Takes (X.tr pn xe) W → PassesOwn (model X.prog X.w) X.A X.env xe → PSs (X.tr pn xe) body (tb W))
    (hsu : ∀ (a : Addr) (oe : Obj) (cls : Value) (d : Option Addr) (pn : List (Addr × Obj)), Zc cls d oe → (∃ vs, oe.data = .fields vs) → X.base.get? a = none → PSs (X.suite a ((a, oe) :: pn)) (b₀ :: suite) (ts a cls d)) :
    PS X (.Try body [.ExceptHandler (some (.Tuple [.Name x1 p1, .Name x2 p2, .Name x3 p3] kk np)) (some n) (b₀ :: suite) pos'] [] [] pos) (fun D σ H => tb (wTup X.K [c1, c2, c3] i ts D) D σ H) := by
  refine ⟨fun pins s σ H D I h => ?_⟩
  have ok := I.ok
  have hfr : X.A.frames = some (X.env :: X.outer) := by rw [ok.frames, hs]
  have hloc : Loc X.env.scope n := .inl hln
  refine wpAny_Try_except ?_
  refine wpAny_mono ((hb (wTup X.K [c1, c2, c3] i ts D) (X.pn ++ pins) (fun e s₁ => wpAny (model X.prog X.w) X.A (noteFrame e X.env) (fun _ s₂ => wpAny (model X.prog X.w) X.A (setFlight e none) (fun _ s₃ =>
    wpAny (model X.prog X.w) X.A (handleBy e X.env [.ExceptHandler (some (.Tuple [.Name x1 p1, .Name x2 p2, .Name x3 p3] kk np)) (some n) (b₀ :: suite) pos']) (SP X pins D) X.xe s₃) X.xe s₂) X.xe s₁) (fun u s' xx => ?_) PassesOwn.looking).run [] s σ H D (I.toTry _) h) (fun f s1 hsp => ?_) (fun e s1 he => he)
  · -- the catch
    obtain ⟨a, B, sI, pins', σ', H', cls, d, rfl, J', nb, up, sky, na, os, ag, hb1, hyes⟩ := xx
    have J : Inv X pins σ' H' sI := J'.ofTry ok
    have sky' : Sky B (X.env :: X.outer) a (Zc cls d) X.env.locals s'.heap := by rw [← hs]; exact sky
    show wpAny (model X.prog X.w) X.A (noteFrame (.ref a) X.env) _ _ _
    refine Sky.land Zc.steady hfr hf sky' fun h3 fl3 up3 => ?_
    have J3 : Inv X pins σ' H' { s' with heap := h3 } := J.landed nb fl3.1 (up.trans up3) os ag
    obtain ⟨oe3, vs3, he3, hz3, hd3⟩ := fl3.there
    have notFr : ∀ {h : Heap} {o : Obj} {vs : Array Value}, h.FunFrames B (X.env :: X.outer) → h.get? a = some o → o.data = .fields vs → a ∉ frs (X.env :: X.outer) := fun {h o vs} ff e dd hm => by
      obtain ⟨_, o', e', hnf⟩ := ff.mem hm
      rw [e] at e'; cases e'
      exact hnf _ dd
    have nfr := notFr fl3.2.2.1 he3 hd3
    have nL : a ≠ X.env.locals := fun z => nfr (List.mem_filterMap.mpr ⟨X.env, List.mem_cons_self, by rw [hf, z]⟩)
    have nF : a ∉ X.fs := fun hm => by
      obtain ⟨e, he, q⟩ := List.mem_filterMap.mp hm
      exact nfr (List.mem_filterMap.mpr ⟨e, List.mem_cons_of_mem _ he, q⟩)
    have S3 := J3.suite he3 hd3 na nL nF
    refine wpAny_handleBy_cons (codeAny_handlers_test ?_) (by intro q; cases q)
    have LT : PySem.W.Looks (model X.prog X.w) h3 (typeOf (.ref a)) cls := fun A Q E s k q => wpAny_typeOf_ref (k _ _ he3) (by rw [hz3.1]; exact q)
    have test : ∀ {x : Str} {c : Value} {np : Pos}, Names X x c → ∀ {Q : Value → Shared → Prop} {E : Value → Shared → Prop}, Q c { s' with heap := h3 } → wpAny (model X.prog X.w) (X.A.mark (some (.ref a))) (eval (.Name x np) X.env) Q E { s' with heap := h3 } := fun {x c np} hc {Q E} q => by
      obtain ⟨hg, hdbg, hm | ⟨hm, hv, hnn⟩⟩ := hc
      · exact ld_glob (X := X.suite a ((a, oe3) :: (X.pn ++ pins))) S3 hg hm q hdbg
      · exact ld_blt (X := X.suite a ((a, oe3) :: (X.pn ++ pins))) S3 hg hm hv q hnn hdbg
    refine wpAny_Tuple ?_
    refine wpAny_items_cons (test hc1 ?_)
    refine wpAny_items_cons (test hc2 ?_)
    refine wpAny_items_cons (test hc3 ?_)
    refine wpAny_items_nil ⟨by show 3 ≤ sizeLine; decide, ?_⟩
    have kp : ∀ q o, h3.get? q = some o → (h3.push { cls := .type "tuple", data := .seq [c1, c2, c3].toArray }).get? q = some o := fun _ _ z => Heap.get?_push_of_some _ z
    refine (PySem.W.exm_tup3 (M := model X.prog X.w) (J3.kIn.keeps kp) (LT.keeps kp) (Heap.get?_push_size h3 rfl) hb1).here ?_
    have fl3 := flying_push (o := { cls := .type "tuple", data := .seq [c1, c2, c3].toArray }) fl3
    have up3 : s'.heap.UpToSlots (h3.push { cls := .type "tuple", data := .seq [c1, c2, c3].toArray }) := up3.trans (Heap.UpToSlots.of_keeps kp)
    show codeAny _ _ _ _ _
    refine codeAny_handlers_suite_as ?_
    refine HandSPX.lands_againZ fl3 fun h4 fl4 up4 => ?_
    have J4 : Inv X pins σ' H' { s' with heap := h4 } := J.landed nb fl4.1 ((up.trans up3).trans up4) os ag
    obtain ⟨oe4, vs4, he4, hz4, hd4⟩ := fl4.there
    have S4 := J4.suite he4 hd4 na nL nF
    have hbase : X.base.get? a = none := by
      cases q : X.base.get? a with
      | none => rfl
      | some o =>
        have z1 := (J.bs a o q).1
        have z2 := nb a o z1 (by rw [hs]; exact nfr)
        have z3 := fl4.2.1
        rw [z2] at z3
        cases z3
    refine store_ok (X := X.suite a ((a, oe4) :: (X.pn ++ pins))) (v := .ref a) S4 hN hi hloc rfl (fun s5 S5 => ?_) (.inr hln)
    refine wpAny_mono ((hsu a oe4 cls d (X.pn ++ pins) hz4 ⟨_, hd4⟩ hbase).run [] s5 _ H' _ S5 (hyes a na)) (fun f s6 hsp => ?_) (fun _ _ z => False.elim z)
    have end_ : ∀ {σ6 : L2.St} {H6 : Hp} {Q : Shared → Prop}, Inv (X.suite a ((a, oe4) :: (X.pn ++ pins))) [] σ6 H6 s6 → (∀ s7, Inv X pins (σ6.set i none) H6 s7 → Q s7) →
        wpAny (model X.prog X.w) X.A (do bindName X.env n .none; unbindBehindTheSuite X.env n pos') (fun _ s7 => Q s7) X.xe s6 := fun {σ6 H6 Q} S6 hq => gone_ok (S6.unsuite ok) hN hi hln hq
    cases f with
    | next =>
      obtain ⟨σ6, H6, S6, q6⟩ := hsp
      exact end_ S6 fun s7 J7 => ⟨_, _, J7, q6⟩
    | brk =>
      obtain ⟨σ6, H6, S6, q6⟩ := hsp
      exact end_ S6 fun s7 J7 => ⟨_, _, J7, q6⟩
    | cont =>
      obtain ⟨σ6, H6, S6, q6⟩ := hsp
      exact end_ S6 fun s7 J7 => ⟨_, _, J7, q6⟩
    | ret u =>
      obtain ⟨v6, σ6, H6, S6, r6, q6⟩ := hsp
      exact end_ S6 fun s7 J7 => ⟨_, _, _, J7, r6, q6⟩
  · cases f with
    | next =>
      obtain ⟨σ', H', J', q⟩ := hsp
      exact wpAny_execs_nil ⟨σ', H', J'.ofTry ok, q⟩
    | brk =>
      obtain ⟨σ', H', J', q⟩ := hsp
      exact ⟨σ', H', J'.ofTry ok, q⟩
    | cont =>
      obtain ⟨σ', H', J', q⟩ := hsp
      exact ⟨σ', H', J'.ofTry ok, q⟩
    | ret u =>
      obtain ⟨v, σ', H', J', r, q⟩ := hsp
      exact ⟨v, σ', H', J'.ofTry ok, r, q⟩
end
end Own

namespace Own
open PySem L2 PySem.HandSPX PyProof.Rows PySem.Spec
/-! ### defs that raise nothing, wherever they are called (within an except suite too) -/
structure FnQ (P : Program) (w : World) (K : PySem.W.Frag) (mg : Str → Option Value) (base : Heap) (k : Nat) (f : Addr) (fd : FuncData) (ps : List Str) (sp : Sp) : Prop where
  len : ∀ vs H Q E, sp vs H Q E → vs.length = ps.length
  run : ∀ (A : Around) (outer : List Env) (s : Shared) (H : Hp) (args : Args) (us : List Value) (vs : List V) (Q : VK) (E : XK), L2H.RoomH k A → Env0 P w K mg base A outer s H → BindsTo s fd args (ps.zip us) → Vals vs us → sp vs H Q E →
    codeAny (model P w) A (.call (.ref f) args) (CR CX0 outer P w H s Q E) s
def cxQ (P : Program) (w : World) (K : PySem.W.Frag) (mg : Str → Option Value) (base : Heap) (N : List Str) (qual : Str) (scope : Scope) (f : Addr) (cd : Value) (A : Around) (outer : List Env) (s : Shared) (H : Hp) (E : XK) : Cx :=
  { cxOf CX0 P w K mg base N qual scope f cd A outer s H E with calm := false }
theorem inv_startQ {P : Program} {w : World} {K : PySem.W.Frag} {mg : Str → Option Value} {base : Heap} {N ps : List Str} {qual : Str} {scope : Scope} {f : Addr} {cd : Value} {A : Around} {outer : List Env} {s s1 : Shared} {H : Hp} {E : XK} {us : List Value} {vs : List V}
    (S : FnScope N ps scope) (e0 : Env0 P w K mg base A outer s H) (hl : vs.length = ps.length) (r : Vals vs us)
    (x : InCallC s s.heap.objs.size (bindL (envOfC qual scope s.heap.objs.size f cd).kindOf (ps.zip us) fun _ => none) (cellsFrom (s.heap.objs.size + 1) scope.names []) (bindC (envOfC qual scope s.heap.objs.size f cd).kindOf (ps.zip us) fun _ => none) s1) :
    Inv (cxQ P w K mg base N qual scope f cd A outer s H E) [] (L2.start N vs) H s1 := by
  have hpl : ps.length ≤ N.length := by have := congrArg List.length S.pre; rw [List.length_take] at this; omega
  obtain ⟨h1, tk, rfl, hk⟩ := x.done
  have noA : ∀ b : Addr, b ∉ (cxQ P w K mg base N qual scope f cd A outer s H E).ex := fun b z => absurd (show b ∈ ([] : List Addr) from z) (by simp)
  refine ⟨⟨e0.mod, S.kind, rfl, rfl, Nat.le_refl _, fun y z c h1 h2 => ?_, fun y hy => ?_, fun y c _ h => ?_, (fun z => Bool.noConfusion (show false = true from z)), Around.frames_deeper e0.frames, .inr ⟨rfl, rfl⟩, fun b z => absurd z (noA b), e0.bs, e0.bsz, fun b _ _ => noA b, fun b z => absurd z (noA b), e0.funs, e0.frf⟩,
    rfl, e0.bare, Un.kept hk, ⟨_, x.toInCall.ns, fun i y v h1 h2 h3 => ?_⟩, fun y c h => ⟨_, x.cell y c h⟩, e0.hok.fresh (Nat.le_refl _), fun y c h => ?_, fun q hq => ?_, e0.hok.kept hk, ?_⟩
  · exact name_of_addr x.apart (PySem.mem_of_lookup h1) (PySem.mem_of_lookup h2)
  · have hy : scope.names.lookup y = some .cell ∨ scope.names.lookup y = some .free := hy
    rcases hy with hy | hy
    · exact cell_has hy
    · exact absurd rfl (S.nofree _ (PySem.mem_of_lookup hy))
  · exact Nat.le_of_lt (x.above y c (PySem.mem_of_lookup h))
  · have hi : i < vs.length := by
      unfold L2.start at h2
      by_cases hi : i < vs.length
      · exact hi
      · rw [List.getElem?_append_right (by simpa using hi)] at h2
        rw [List.getElem?_replicate] at h2
        split at h2 <;> cases h2
    have ha : vs[i]? = some v := by
      unfold L2.start at h2
      rw [List.getElem?_append_left (by simpa using hi), List.getElem?_map] at h2
      cases e : vs[i]? with
      | none => rw [e] at h2; cases h2
      | some a => rw [e] at h2; cases h2; rfl
    obtain ⟨u, hu, rv⟩ := r.get ha
    have hp : ps[i]? = some y := by
      rw [← S.pre, List.getElem?_take_of_lt (by omega)]; exact h1
    have ndP : ps.Nodup := by rw [← S.pre]; exact S.nd.sublist (List.take_sublist _ _)
    refine ⟨u, rv, ?_⟩
    rcases S.par y (List.mem_of_getElem? hp) with k | k
    · exact .inl ⟨k, bindL_get ndP hp hu k⟩
    · obtain ⟨c, e⟩ := cell_has (n := s.heap.objs.size + 1) k
      refine .inr ⟨.inl k, c, e, ?_⟩
      have q := x.cell y c e
      rw [bindC_get ndP hp hu (by show scope.names.lookup y ≠ _; rw [k]; decide)] at q
      exact q
  · exact e0.hok.fresh (Nat.le_of_lt (x.above y c (PySem.mem_of_lookup h)))
  · exact absurd (show q ∈ ([] : List (Addr × Obj)) ++ [] from hq) (by simp)
  · unfold L2.start
    show _ = N.length
    rw [List.length_append, List.length_map, List.length_replicate]
    omega
theorem fn_ofQ {P : Program} {w : World} {K : PySem.W.Frag} {mg : Str → Option Value} {base : Heap} {k : Nat} {f : Addr} {x qual : Str} {st : Stmt} {fd : FuncData} {N ps : List Str} {sp : Sp} (F : Fun K x qual st f fd) (S : FnScope N ps (defScope st))
    (len : ∀ vs H Q E, sp vs H Q E → vs.length = ps.length)
    (hbody : ∀ (cdv : Value) (A : Around) (outer : List Env) (s : Shared) (H : Hp) (vs : List V) (Q : VK) (E : XK), L2H.RoomH k (A.deeper (envOfC qual (defScope st) s.heap.objs.size f cdv)) → sp vs H Q E →
      ∃ t, PSs (cxQ P w K mg base N qual (defScope st) f cdv A outer s H E) (defBody st) t ∧ t { nx := fun _ H' => Q .non H', rt := Q } (L2.start N vs) H) :
    FnQ P w K mg base (k + 1) f fd ps sp := by
  obtain ⟨⟨oc, od, kV, doc, pm, an, cdv, ct, osl, rfl, lk, hcd⟩, _⟩ := F
  refine ⟨len, fun A outer s H args us vs Q E hr e0 hb r hsp => ?_⟩
  have hl := len _ _ _ _ hsp
  have KX : K.In s.heap := e0.mod.kin.keeps fun b o e => (e0.bs b o e).1
  have lim : s.heap.NoLimit := e0.mod.nolimit.keeps fun b o e => (e0.bs b o e).1
  have hkind : ∀ y ∈ ps.zip us, (defScope st).names.lookup y.1 = some .local ∨ ((defScope st).names.lookup y.1 = some .cell ∧ ((cellsFrom (s.heap.objs.size + 1) (defScope st).names []).lookup y.1).isSome = true) := fun ⟨n, v⟩ hy => by
    rcases S.par n (List.of_mem_zip hy).1 with q | q
    · exact .inl q
    · exact .inr ⟨q, PySem.W.cellsFrom_some _ _ _ (.inl q)⟩
  refine codeAny_call_function hr.depth (KX _ _ lk) rfl S.co S.gen rfl (PySem.W.codeRec_of KX hcd) (hb _ _ _ _ ?_)
  refine wpAny_newFunctionEnv_cells S.kind hkind fun env he s1 x => ?_
  subst he
  refine ⟨lim.keeps x.toInCall.keep, codeAny_func ?_⟩
  obtain ⟨t, ht, hq⟩ := hbody cdv A outer s H vs Q E (hr.deeper _) hsp
  have I : Inv (cxQ P w K mg base N qual (defScope st) f cdv A outer s H E) [] (L2.start N vs) H s1 := inv_startQ S e0 hl r x
  refine wpAny_mono (ht.run [] s1 (L2.start N vs) H _ I hq) (fun fl s' hs => ?_) fun e s' hs => hs
  have fin : ∀ {σ' : L2.St} {H' : Hp} {v : V} {u : Value}, Inv (cxQ P w K mg base N qual (defScope st) f cdv A outer s H E) [] σ' H' s' → RelV v u → Q v H' → CE outer P w H s Q u s' :=
    fun {σ' H' v u} J rv q => ⟨v, H', J.os, J.bare, J.base, J.hok, rv, q⟩
  cases fl with
  | ret u =>
    obtain ⟨v, σ', H', J, rv, q⟩ := hs
    exact fin J rv q
  | next =>
    obtain ⟨σ', H', J, q⟩ := hs
    exact fin (v := V.non) (u := Value.none) J rfl q
  | brk =>
    obtain ⟨_, _, _, q⟩ := hs
    exact False.elim q
  | cont =>
    obtain ⟨_, _, _, q⟩ := hs
    exact False.elim q
/-! ### the caught exception, tracked -/
/-- the object at a is o -/
def exq (a : Addr) (o : Obj) : HO := .ext fun h => h.get? a = some o
theorem exq_own {a x : Addr} {o : Obj} : exq a o ≠ .own x := fun z => by
  have z' : HO.ext _ = HO.own x := z
  cases z'
theorem exq_tup {a : Addr} {o : Obj} {xs : List V} : exq a o ≠ .tup xs := fun z => by
  have z' : HO.ext _ = HO.tup xs := z
  cases z'
theorem exq_ok {P : Program} {w : World} {H : Hp} {h : Heap} {a : Addr} {o : Obj} (e : h.get? a = some o) : ObjOk P w H h a (exq a o) := ⟨e, ⟨_, e⟩, fun h1 h2 z k => k _ z⟩
theorem exq_at {P : Program} {w : World} {H : Hp} {h : Heap} {a : Addr} {o : Obj} (hok : HOk P w H h) (e : H a = some (exq a o)) : h.get? a = some o := (hok a _ e).1
structure ExQ (C dd : Addr) (o : Obj) : Prop where
  cls : o.cls = .ref C
  dict : o.dict = some dd
  data : ∃ vs, o.data = .fields vs
/-- e.f, e a caught exception that is tracked -/
def tGxq (K : PySem.W.Frag) (f : Str) (te : TE) : TE := fun σ H Q => te σ H fun x H1 => ∃ (a C d : Addr) (o : Obj) (fs : List (Str × V)) (v : V), x = .ref a ∧ H1 a = some (exq a o) ∧ ExQ C d o ∧ H1 d = some (exd d fs) ∧ ExK K C ∧ PySem.W.findIn K (.ref C) f = some none ∧ fs.lookup f = some v ∧ Q v H1
section
variable {X : Cx} {e : Expr} {te : TE} {f : Str} {pos : Pos}
theorem pe_gxq (he : PE X e te) (hb : attributeBase e f X.env (eval e X.env) = eval e X.env := by rfl) : PE X (.Attribute e f pos) (tGxq X.K f te) := by
  refine ⟨fun pins s σ H Q I h => attr_of hb (thn (he.run pins s σ H _ I h) fun u s1 ⟨x, H1, I1, rx, a, C, d, o, fs, v, ex, ea, eo, ed, T, hno, l, q⟩ => ?_)⟩
  subst ex
  obtain rfl : u = Value.ref a := rx
  have hx := exq_at I1.hok ea
  obtain ⟨mA, hns, hr⟩ := exd_at I1.hok ed
  obtain ⟨od, ho, hl⟩ := lookIn_ns hns
  obtain ⟨u, hu, ru⟩ := RelO.some_of (v := v) (o := mA f) (by rw [← l]; exact hr f)
  obtain ⟨vs, hd⟩ := eo.data
  have J : PySem.W.InstAt s1.heap a o C (some od) := ⟨hx, eo.cls, by unfold PySem.W.notCls; rw [hd] <;> rfl, by rw [eo.dict]; exact ho⟩
  exact HandSPX.exc_get I1.kIn J T.ga T.gg T.exC (PySem.W.findObj_own T.hd hno rfl (by rw [hl, hu])) (handed_of ru) ⟨v, H1, I1.tok _, ru, q⟩
end
/-- e.f, e the caught exception in its suite -/
def tXfA (K : PySem.W.Frag) (a : Addr) (cls : Value) (d : Option Addr) (f : Str) (te : TE) : TE := fun σ H Q => te σ H fun x H1 => x = .ref a ∧ ∃ (C dd : Addr) (fs : List (Str × V)) (v : V), cls = .ref C ∧ XfC K C ∧ PySem.W.findIn K (.ref C) f = some none ∧ d = some dd ∧ H1 dd = some (.xd fs) ∧ fs.lookup f = some v ∧ Q v H1
theorem pe_xfA {X : Cx} {a : Addr} {oe : Obj} {cls : Value} {d : Option Addr} {pn : List (Addr × Obj)} {e : Expr} {te : TE} {pos : Pos} {n : Str} (hz : Zc cls d oe) (hf : ∃ vs, oe.data = .fields vs) (he : PE (X.suite a ((a, oe) :: pn)) e te) (hb : attributeBase e n X.env (eval e X.env) = eval e X.env := by rfl) :
    PE (X.suite a ((a, oe) :: pn)) (.Attribute e n pos) (tXfA X.K a cls d n te) := by
  refine ⟨fun pins s σ H Q I h => ?_⟩
  refine attr_of hb (thn (he.run pins s σ H _ I h) fun u s1 hh => ?_)
  obtain ⟨x, H1, I1, rx, ex, C, dd, fs, v, ec, T, hno, ed, ea, l, q⟩ := hh
  subst ex
  obtain rfl : u = Value.ref a := rx
  subst ec
  subst ed
  obtain ⟨ha, _⟩ := I1.pin (a, oe) (List.mem_append_left _ List.mem_cons_self)
  obtain ⟨vs, hd⟩ := hf
  have hx : ObjOk X.prog X.w H1 s1.heap dd (.xd fs) := I1.hok dd _ ea
  obtain ⟨mA, hns, hr⟩ := hx
  obtain ⟨od, ho, hl⟩ := lookIn_ns hns
  obtain ⟨u, hu, ru⟩ := RelO.some_of (v := v) (o := mA n) (by rw [← l]; exact hr n)
  have J : PySem.W.InstAt s1.heap a oe C (some od) := ⟨ha, hz.1, by unfold PySem.W.notCls; rw [hd] <;> rfl, by rw [hz.2]; exact ho⟩
  exact HandSPX.exc_get I1.kIn J T.ga T.gg T.exC (PySem.W.findObj_own T.hdC hno rfl (by rw [hl, hu])) (handed_of ru) ⟨v, H1, I1.tok _, ru, q⟩
/-- the heap while a def looks at the caught exception -/
def hpX (H : Hp) (a dd : Addr) (oe : Obj) (fs : List (Str × V)) : Hp := upd (upd H dd (exd dd fs)) a (exq a oe)
/-- .. and behind it -/
def hpB (H : Hp) (a dd : Addr) (fs : List (Str × V)) : Hp := upd (del H a) dd (.xd fs)
/-- f(e), e the caught exception -/
def tCallX (a : Addr) (cls : Value) (d : Option Addr) (sp : Sp) (ta : TA) : TE := fun σ H Q => ta σ H fun vs H1 => vs = [.ref a] ∧ ∃ (C dd : Addr) (fs : List (Str × V)), cls = .ref C ∧ d = some dd ∧ H1 dd = some (.xd fs) ∧ ∀ oe, ExQ C dd oe →
  sp [.ref a] (hpX H1 a dd oe fs) (fun v H2 => H2 a = some (exq a oe) ∧ H2 dd = some (exd dd fs) ∧ Q v (hpB H2 a dd fs)) (fun _ _ _ => False)
section
variable {X : Cx} {x : Str} {e : Expr} {ta : TA} {p pos : Pos} {f : Addr} {k : Nat} {fd : FuncData} {ps : List Str} {sp : Sp} {a : Addr} {oe : Obj} {cls : Value} {d : Option Addr} {pn : List (Addr × Obj)}
theorem pe_callX (F : FnQ X.prog X.w X.K X.mg X.base k f fd ps sp) (hr : L2H.RoomH k X.A) (hz : Zc cls d oe) (hf : ∃ vs, oe.data = .fields vs) (hbase : X.base.get? a = none) (hg : Gl X x) (hm : X.mg x = some (.ref f)) (hk : PySem.W.keepIn X.K (.ref f) = true) (hb : Binds X.K fd ps [])
    (ha : PA (X.suite a ((a, oe) :: pn)) [e] ta)
    (hdb : (x == ("__debug__" : Str)) = false := by decide) (hse : starEach [e] X.env = (false, eval e X.env) :: starEach [] X.env := by rfl) (hpl : (backTo pos (starEach [] X.env)).any (·.1) = false := by rfl) :
    PE (X.suite a ((a, oe) :: pn)) (.Call (.Name x p) [e] [] pos) (tCallX a cls d sp ta) := by
  refine ⟨fun pins s σ H Q I h => ?_⟩
  refine wpAny_Call_Name_kw (ld_glob I hg hm ?_ hdb)
  refine PySem.W.callWith_K (h₀ := X.base) I.ok.mod.kin hk (thn (ha.run pos pins s σ H _ I h) fun us s1 ⟨vs, H1, I1, r1, q1⟩ => ⟨I1.kIn, ?_⟩) hse hpl
  obtain ⟨rfl, C, dd, fs, rfl, rfl, hdd, q⟩ := q1
  have q := q oe ⟨hz.1, hz.2, hf⟩
  obtain ⟨ga, na, nL, nF, _⟩ := I1.pin (a, oe) (List.mem_append_left _ List.mem_cons_self)
  have nad : a ≠ dd := fun z => by
    have na' : H1 a = none := na
    rw [z, hdd] at na'
    cases na'
  obtain ⟨mA, hns, rel⟩ := I1.hok dd _ hdd
  have e0 := I1.env0
  have at_ : ∀ b, b ≠ a → b ≠ dd → hpX H1 a dd oe fs b = H1 b := fun b h1 h2 => by unfold hpX; rw [upd_ne h1, upd_ne h2]
  have atA : hpX H1 a dd oe fs a = some (exq a oe) := upd_same
  have atD : hpX H1 a dd oe fs dd = some (exd dd fs) := by unfold hpX; rw [upd_ne nad.symm, upd_same]
  have hok1 : HOk X.prog X.w (hpX H1 a dd oe fs) s1.heap := fun b o z => by
    by_cases hba : b = a
    · subst hba
      rw [atA] at z
      cases z
      exact exq_ok ga
    by_cases hbd : b = dd
    · subst hbd
      rw [atD] at z
      cases z
      exact exd_ok hns rel
    rw [at_ b hba hbd] at z
    have na' : H1 a = none := na
    exact (I1.hok b o z).stay (fun c v hc y => y) (fun c hc => by rw [at_ c (ne_of_none hc na') (fun e => by rw [e, hdd] at hc; cases hc)]; exact hc) (fun c xs hc => by rw [at_ c (ne_of_none hc na') (fun e => by rw [e, hdd] at hc; cases hc)]; exact hc)
  have up1 : ∀ b, H1 b = none → b ≠ a → hpX H1 a dd oe fs b = none := fun b n hb => by
    rw [at_ b hb (fun e => by rw [e, hdd] at n; cases n)]
    exact n
  have nfr : a ∉ frs X.stack := fun hm => (List.mem_cons.mp (I1.stkSub a hm)).elim nL nF
  have e1 : Env0 X.prog X.w X.K X.mg X.base (X.A.mark (some (.ref a))) X.stack s1 (hpX H1 a dd oe fs) :=
    ⟨e0.frames, e0.mod, fun b o hb => ⟨(e0.bs b o hb).1, up1 b (e0.bs b o hb).2 (fun e => by rw [e, hbase] at hb; cases hb)⟩, e0.bsz, e0.funs, fun b hb => up1 b (e0.frf b hb) (fun e => nfr (e ▸ hb)), hok1, e0.bare⟩
  have hl : us.length = ps.length := by rw [← r1.length]; exact F.len _ _ _ _ q
  have bb := hb s1 us I1.kIn (by rw [List.append_nil]; exact hl)
  rw [List.append_nil] at bb
  have hr' : L2H.RoomH k (X.A.mark (some (.ref a))) := ⟨hr.dp, hr.un⟩
  refine wpAny_call (codeAny_mono (F.run (X.A.mark (some (.ref a))) X.stack s1 _ ⟨us, []⟩ us _ _ _ hr' e1 bb r1 q) fun r s' hq => ?_)
  cases r with
  | error er => exact (show False from hq).elim
  | ok fl =>
    cases fl with
    | next => exact False.elim hq
    | brk => exact False.elim hq
    | cont => exact False.elim hq
    | ret u =>
      obtain ⟨v, H2, os2, bare2, un, hok2, rv, ea, ed, q2⟩ := hq
      refine I1.after ⟨v, hpB H2 a dd fs, os2, bare2, ?_, ?_, rv, q2⟩
      · have na' : H1 a = none := na
        have bk : ∀ b, b ≠ a → b ≠ dd → hpB H2 a dd fs b = H2 b := fun b h1 h2 => by unfold hpB; rw [upd_ne h2, del_ne h1]
        have nd : ∀ {b : Addr}, H1 b = none → b ≠ dd := fun {b} n e => by rw [e, hdd] at n; cases n
        exact {
          keep := fun b o z n hf hx => by
            by_cases hba : b = a
            · subst hba
              rw [ga] at z
              cases z
              exact exq_at hok2 ea
            · exact un.keep b o z (up1 b n hba) hf hx
          slot := fun b o z n hf hx => un.slot b o z (up1 b n (fun e => nfr (e ▸ hf))) hf hx
          free := fun b o z n hx => by
            by_cases hba : b = a
            · subst hba
              unfold hpB
              rw [upd_ne nad, del_same]
            · rw [bk b hba (nd n)]
              exact un.free b o z (up1 b n hba) hx
          there := un.there
          tups := fun b xs z => by
            have h1 := ne_of_none z na'
            have h2 : b ≠ dd := fun e => by rw [e, hdd] at z; cases z
            rw [bk b h1 h2]
            exact un.tups b xs (by rw [at_ b h1 h2]; exact z)
          frzs := fun b o u z => by
            have h1 := ne_of_none z na'
            have h2 : b ≠ dd := fun e => by rw [e, hdd] at z; cases z
            rw [bk b h1 h2]
            exact un.frzs b o u (by rw [at_ b h1 h2]; exact z)
          tbls := fun b qs z => by
            have h1 := ne_of_none z na'
            have h2 : b ≠ dd := fun e => by rw [e, hdd] at z; cases z
            rw [bk b h1 h2]
            exact un.tbls b qs (by rw [at_ b h1 h2]; exact z) }
      · intro b o z
        by_cases hbd : b = dd
        · subst hbd
          unfold hpB at z
          rw [upd_same] at z
          cases z
          obtain ⟨mB, hn2, rel2⟩ := exd_at hok2 ed
          exact ⟨mB, hn2, rel2⟩
        · unfold hpB at z
          rw [upd_ne hbd] at z
          have hba : b ≠ a := fun e => by rw [e, del_same] at z; cases z
          rw [del_ne hba] at z
          refine (hok2 b o z).stay (fun c v hc y => y) (fun c hc => ?_) (fun c xs hc => ?_)
          · unfold hpB
            rw [upd_ne (at_ne ed hc exd_own), del_ne (at_ne ea hc exq_own)]; exact hc
          · unfold hpB
            rw [upd_ne (at_ne ed hc exd_tup), del_ne (at_ne ea hc exq_tup)]; exact hc
end
end Own

namespace Own
open PySem L2 PySem.HandSPX PyProof.Rows PySem.Spec LamX NdefX
/-! ### a lambda without parameters, as a thing that is known -/
/-- its words: NF with no statements, and the body -/
def LamO (f : Addr) (F : NF) (body : Expr) : HO := .ext fun h => ∃ (pm ctv : Value), h.get? f = some (PySem.W.kla_obj "<lambda>" F.qual F.params body F.scope F.cl pm F.c ctv)
theorem lamO_at {P : Program} {w : World} {H : Hp} {h : Heap} {f : Addr} {F : NF} {body : Expr} (hok : HOk P w H h) (e : H f = some (LamO f F body)) : ∃ (pm ctv : Value), h.get? f = some (PySem.W.kla_obj "<lambda>" F.qual F.params body F.scope F.cl pm F.c ctv) := (hok f _ e).1
section
variable {X : Cx} {pins : List (Addr × Obj)} {σ : L2.St} {H : Hp} {s : Shared}
theorem inv_lam {F : NF} {body : Expr} {o : Obj} {t' : Nat} {pm ctv : Value} (I : Inv X pins σ H s) (ho : o = PySem.W.kla_obj "<lambda>" F.qual F.params body F.scope F.cl pm F.c ctv) :
    Inv X pins σ (upd H s.heap.objs.size (LamO s.heap.objs.size F body)) { s with heap := s.heap.push o, toks := t' } := by
  subst ho
  refine I.laid (a := s.heap.objs.size) (fun b u e => Heap.get?_push_of_some _ e) (Nat.le_refl _) ?_
  have e : (s.heap.push (PySem.W.kla_obj "<lambda>" F.qual F.params body F.scope F.cl pm F.c ctv)).get? s.heap.objs.size = some (PySem.W.kla_obj "<lambda>" F.qual F.params body F.scope F.cl pm F.c ctv) := Heap.get?_push_size _ rfl
  exact ⟨⟨pm, ctv, e⟩, ⟨_, e⟩, fun h1 h2 ⟨p, t, z⟩ st => ⟨p, t, st _ z⟩⟩
def lamF (X : Cx) (params : Arguments) (scope : Scope) (c' : Addr) : NF := ⟨"<lambda>", X.env.qual ++ "<lambda>", params, [], scope, cloFrom X.env.cells scope.names [], c'⟩
theorem lam_mk {T : List (Addr × Str)} {c P : Addr} {params : Arguments} {body : Expr} {scope : Scope} {pos : Pos} {E : Value → Shared → Prop} {Q : Value → Shared → Prop} (I : Inv X pins σ H s) (TB : TabB X.base X.mg c P) (hcode : X.env.code = .ref c)
    (hm : (P, X.env.qual ++ "<lambda>") ∈ T) (hu : ∀ p ∈ T, p.1 = P → p.2 = X.env.qual ++ "<lambda>") (hT : Tabs T H) (hdef : defaultsOf params X.env = ([], [])) (hfree : ∀ y ∈ scope.names, y.2 = .free → ∃ c, X.env.cells.lookup y.1 = some c)
    (h : ∀ (f c' : Addr) (H1 : Hp) (s' : Shared), Inv X pins σ H1 s' → ExtN H H1 → (∀ b, H1 b = none → H b = none) → Tabs T H1 → H f = none → H1 f = some (LamO f (lamF X params scope c') body) → H1 c' = some (CodeO c' (X.env.qual ++ "<lambda>")) → Q (.ref f) s') :
    wpAny (model X.prog X.w) X.A (eval (.Lambda params body scope pos) X.env) Q E s := by
  obtain ⟨ps, hP, ht, ha⟩ := hT _ hm
  refine PySem.W.kla_eval hdef ?_
  have bP : s.heap.BuiltinsAt X.mg P := TB.bm.keeps I.bk
  have hP' : s.heap.get? P = some { cls := .none, data := .fields ps } := I.hok P _ hP
  cases hc : codeAmong pos ps.toList with
  | none =>
    refine PySem.W.kla_makeFunction (mg := X.mg) (c := c) (P := P) (ps := ps) (closure_ok hfree) I.ok.glob (I.mod.glob.keeps I.bk) hcode (TB.code.keeps I.bk) hP' ht hc TB.gP bP fun c' ctv h' tk hx hge hlt hrec htb => ?_
    obtain ⟨c2, oc, vs, t, e2, hoc, hd, hv⟩ := hrec
    cases e2
    have nC : H c' = none := I.hok.fresh hge
    have I1 := inv_table (t' := tk) (more := #[rawInt pos.line, rawInt pos.col, .ref c']) (h' := h') I hP (fun b o hb e => hx b o hb e) htb hge ⟨oc, vs, t, hoc, hd, hv⟩
    have hE : ExtN H (upd (upd H P (.tbl (ps ++ #[rawInt pos.line, rawInt pos.col, .ref c']))) c' (CodeO c' (X.env.qual ++ "<lambda>"))) := fun b o e n => by
      rw [upd_ne (ne_of_none e nC), upd_ne (fun z => n ps (Option.some.inj (e.symm.trans (by rw [z]; exact hP))))]
      exact e
    have eL : (ps ++ #[rawInt pos.line, rawInt pos.col, .ref c']).toList = ps.toList ++ [rawInt pos.line, rawInt pos.col, .ref c'] := by simp
    have T1 : Tabs T (upd (upd H P (.tbl (ps ++ #[rawInt pos.line, rawInt pos.col, .ref c']))) c' (CodeO c' (X.env.qual ++ "<lambda>"))) := fun p hp => by
      by_cases hb : p.1 = P
      · rw [hu p hp hb, hb]
        refine ⟨_, by rw [upd_ne (ne_of_none hP nC), upd_same], by rw [eL]; exact PySem.TriplesOk_snoc _ _ _ _ ht, fun p' cv hcv => ?_⟩
        rw [eL] at hcv
        rcases among_app _ ht hcv with z | z
        · obtain ⟨c0, e1, e2⟩ := ha p' cv z
          exact ⟨c0, e1, hE _ _ e2 codeO_ne⟩
        · exact ⟨c', z, upd_same⟩
      · obtain ⟨ps', a1, a2, a3⟩ := hT p hp
        refine ⟨ps', by rw [upd_ne (ne_of_none a1 nC), upd_ne hb]; exact a1, a2, fun p' cv hcv => ?_⟩
        obtain ⟨c0, e1, e2⟩ := a3 p' cv hcv
        exact ⟨c0, e1, hE _ _ e2 codeO_ne⟩
    have nF := I1.hok.fresh (Nat.le_refl _)
    have I2 := inv_lam (F := lamF X params scope c') (body := body) (t' := tk) (pm := (X.mg "__name__").getD .none) (ctv := ctv) I1 rfl
    refine h h'.objs.size c' _ _ I2 (fun b o e n => ?_) (fun b e => upd_none (upd_none (upd_none e))) (T1.ext fun b o e => ?_) (I.hok.fresh (Nat.le_trans hge (Nat.le_of_lt hlt))) upd_same ?_
    · have e1 := hE b o e n
      exact (upd_ne (ne_of_none e1 nF)).trans e1
    · exact (upd_ne (ne_of_none e nF)).trans e
    · exact (upd_ne (Nat.ne_of_lt hlt)).trans upd_same
  | some cv =>
    obtain ⟨c', e, hco⟩ := ha pos cv hc
    subst e
    refine PySem.W.kla_makeFunctionHit (mg := X.mg) (c := c) (P := P) (ps := ps) (closure_ok hfree) I.ok.glob (I.mod.glob.keeps I.bk) hcode (TB.code.keeps I.bk) hP' ht hc bP fun ctv h' tk hx hsz => ?_
    have I1 : Inv X pins σ H { s with heap := h', toks := tk } := I.kept hx
    have nF : H h'.objs.size = none := I1.hok.fresh (Nat.le_refl _)
    have I2 := inv_lam (F := lamF X params scope c') (body := body) (t' := tk) (pm := (X.mg "__name__").getD .none) (ctv := ctv) I1 rfl
    refine h h'.objs.size c' _ _ I2 (fun b o e n => ?_) (fun b e => upd_none e) (hT.ext fun b o e => ?_) nF upd_same ?_
    · exact (upd_ne (ne_of_none e nF)).trans e
    · exact (upd_ne (ne_of_none e nF)).trans e
    · exact (upd_ne (ne_of_none hco nF)).trans hco
end
/-- lambda: body, made -/
def tLamO (X : Cx) (T : List (Addr × Str)) (params : Arguments) (scope : Scope) (body : Expr) : TE := fun _ H Q => Tabs T H ∧ ∀ (f c' : Addr) (H1 : Hp), ExtN H H1 → (∀ b, H1 b = none → H b = none) → Tabs T H1 → H f = none → H1 f = some (LamO f (lamF X params scope c') body) → H1 c' = some (CodeO c' (X.env.qual ++ "<lambda>")) → Q (.ref f) H1
section
variable {X : Cx}
theorem pe_lamO {T : List (Addr × Str)} {c P : Addr} {params : Arguments} {body : Expr} {scope : Scope} {pos : Pos} (TB : TabB X.base X.mg c P) (hcode : X.env.code = .ref c)
    (hm : (P, X.env.qual ++ "<lambda>") ∈ T) (hu : ∀ p ∈ T, p.1 = P → p.2 = X.env.qual ++ "<lambda>") (hdef : defaultsOf params X.env = ([], [])) (L : LamS X.env.scope scope) :
    PE X (.Lambda params body scope pos) (tLamO X T params scope body) :=
  ⟨fun pins s σ H Q I ⟨hT, h⟩ => lam_mk I TB hcode hm hu hT hdef (L.has I.ok) fun f c' H1 s' I1 e n T1 nf hf hc => ⟨.ref f, H1, I1, rfl, h f c' H1 e n T1 nf hf hc⟩⟩
end
end Own

namespace Own
open PySem L2 PySem.HandSPX PyProof.Rows PySem.Spec LamX NdefX
/-! ### tracking some objects exactly, for a while -/
abbrev SO := Addr → Option Obj
def trk (S : SO) (H : Hp) : Hp := fun b => match S b with
  | some o => some (exq b o)
  | none => H b
def utrk (S : SO) (H : Hp) : Hp := fun b => match S b with
  | some _ => none
  | none => H b
def Tracked (S : SO) (H : Hp) : Prop := ∀ b o, S b = some o → H b = some (exq b o)
theorem trk_in {S : SO} {H : Hp} {b : Addr} {o : Obj} (h : S b = some o) : trk S H b = some (exq b o) := by unfold trk; rw [h]
theorem trk_out {S : SO} {H : Hp} {b : Addr} (h : S b = none) : trk S H b = H b := by unfold trk; rw [h]
theorem utrk_in {S : SO} {H : Hp} {b : Addr} {o : Obj} (h : S b = some o) : utrk S H b = none := by unfold utrk; rw [h]
theorem utrk_out {S : SO} {H : Hp} {b : Addr} (h : S b = none) : utrk S H b = H b := by unfold utrk; rw [h]
theorem utrk_none {S : SO} {H : Hp} {b : Addr} (h : H b = none) : utrk S H b = none := by
  cases e : S b with
  | none => rw [utrk_out e]; exact h
  | some o => exact utrk_in e
theorem trk_tracked {S : SO} {H : Hp} : Tracked S (trk S H) := fun _ _ h => trk_in h
theorem Tracked.same {S : SO} {H H' : Hp} (t : Tracked S H) (sm : Same H H') : Tracked S H' := fun b o h => sm _ _ (t b o h)
/-- S's objects stand in h, untracked in H -/
def Stand (S : SO) (h : Heap) (H : Hp) : Prop := ∀ b o, S b = some o → h.get? b = some o ∧ H b = none
section
variable {P : Program} {w : World} {S : SO} {H H' : Hp} {h h' B : Heap} {fs : List Addr}
theorem hok_trk (hok : HOk P w H h) (st : Stand S h H) : HOk P w (trk S H) h := fun b u z => by
  cases e : S b with
  | some o =>
    rw [trk_in e] at z
    cases z
    exact exq_ok (st b o e).1
  | none =>
    rw [trk_out e] at z
    refine (hok b u z).stay (fun c v hc y => y) (fun c hc => ?_) (fun c xs hc => ?_)
    · cases e2 : S c with
      | none => rw [trk_out e2]; exact hc
      | some o => rw [(st c o e2).2] at hc; cases hc
    · cases e2 : S c with
      | none => rw [trk_out e2]; exact hc
      | some o => rw [(st c o e2).2] at hc; cases hc
theorem hok_utrk (hok : HOk P w H h) (t : Tracked S H) : HOk P w (utrk S H) h := fun b u z => by
  cases e : S b with
  | some o => rw [utrk_in e] at z; cases z
  | none =>
    rw [utrk_out e] at z
    refine (hok b u z).stay (fun c v hc y => y) (fun c hc => ?_) (fun c xs hc => ?_)
    · cases e2 : S c with
      | none => rw [utrk_out e2]; exact hc
      | some o => rw [t c o e2] at hc; exact absurd (Option.some.inj hc) exq_own
    · cases e2 : S c with
      | none => rw [utrk_out e2]; exact hc
      | some o => rw [t c o e2] at hc; exact absurd (Option.some.inj hc) exq_tup
theorem exq_frz {a : Addr} {o o' : Obj} {u : HO} : exq a o ≠ .frz o' u := fun z => by
  have z' : HO.ext _ = HO.frz o' u := z
  cases z'
theorem exq_tbl {a : Addr} {o : Obj} {ps : Array Value} : exq a o ≠ .tbl ps := fun z => by
  have z' : HO.ext _ = HO.tbl ps := z
  cases z'
/-- behind a call that tracked more -/
theorem un_more (un : Un fs [] (trk S H) H' h h') (st : Stand S h H) (nf : ∀ b o, S b = some o → b ∉ fs) (t : Tracked S H') (hok : HOk P w H' h') : Un fs [] H (utrk S H') h h' := by
  have up : ∀ b, H b = none → S b = none → trk S H b = none := fun b n e => by rw [trk_out e]; exact n
  have ot : ∀ b u, H b = some u → S b = none := fun b u z => by
    cases e : S b with
    | none => rfl
    | some o => rw [(st b o e).2] at z; cases z
  exact {
    keep := fun b o z n hf hx => by
      cases e : S b with
      | none => exact un.keep b o z (up b n e) hf hx
      | some q =>
        rw [(st b q e).1] at z
        cases z
        exact exq_at hok (t b _ e)
    slot := fun b o z n hf hx => by
      cases e : S b with
      | none => exact un.slot b o z (up b n e) hf hx
      | some q => exact absurd hf (nf b q e)
    free := fun b o z n hx => by
      cases e : S b with
      | none => rw [utrk_out e]; exact un.free b o z (up b n e) hx
      | some q => exact utrk_in e
    there := un.there
    tups := fun b xs z => by
      have e := ot b _ z
      rw [utrk_out e]; exact un.tups b xs (by rw [trk_out e]; exact z)
    frzs := fun b o u z => by
      have e := ot b _ z
      rw [utrk_out e]; exact un.frzs b o u (by rw [trk_out e]; exact z)
    tbls := fun b ps z => by
      have e := ot b _ z
      rw [utrk_out e]; exact un.tbls b ps (by rw [trk_out e]; exact z) }
/-- behind a call that tracked less -/
theorem un_less (un : Un fs [] (utrk S H) H' h h') (t : Tracked S H) (hok : HOk P w H h) (frf : ∀ b ∈ fs, H b = none) : Un fs [] H (trk S H') h h' ∧ Stand S h' H' := by
  have nfs : ∀ b o, S b = some o → b ∉ fs := fun b o e hf => by
    have z := frf b hf
    rw [t b o e] at z
    cases z
  have st : Stand S h' H' := fun b o e => ⟨un.keep b o (exq_at hok (t b o e)) (utrk_in e) (nfs b o e) (by simp), un.free b o (exq_at hok (t b o e)) (utrk_in e) (by simp)⟩
  have sn : ∀ b, H b = none → S b = none := fun b n => by
    cases e : S b with
    | none => rfl
    | some o => rw [t b o e] at n; cases n
  refine ⟨{
    keep := fun b o z n hf hx => un.keep b o z (utrk_none n) hf hx
    slot := fun b o z n hf hx => un.slot b o z (utrk_none n) hf hx
    free := fun b o z n hx => by rw [trk_out (sn b n)]; exact un.free b o z (utrk_none n) hx
    there := un.there
    tups := fun b xs z => ?_
    frzs := fun b o u z => ?_
    tbls := fun b ps z => ?_ }, st⟩
  · have e : S b = none := by
      cases e : S b with
      | none => rfl
      | some o => rw [t b o e] at z; exact absurd (Option.some.inj z) exq_tup
    rw [trk_out e]; exact un.tups b xs (by rw [utrk_out e]; exact z)
  · have e : S b = none := by
      cases e : S b with
      | none => rfl
      | some o' => rw [t b o' e] at z; exact absurd (Option.some.inj z) exq_frz
    rw [trk_out e]; exact un.frzs b o u (by rw [utrk_out e]; exact z)
  · have e : S b = none := by
      cases e : S b with
      | none => rfl
      | some o => rw [t b o e] at z; exact absurd (Option.some.inj z) exq_tbl
    rw [trk_out e]; exact un.tbls b ps (by rw [utrk_out e]; exact z)
theorem ub_less (un : UB fs (utrk S H) H' h B h') (t : Tracked S H) (hok : HOk P w H h) (frf : ∀ b ∈ fs, H b = none) : UB fs H (trk S H') h B h' ∧ Stand S B H' := by
  have nfs : ∀ b o, S b = some o → b ∉ fs := fun b o e hf => by
    have z := frf b hf
    rw [t b o e] at z
    cases z
  have st : Stand S B H' := fun b o e => ⟨un.keep b o (exq_at hok (t b o e)) (utrk_in e) (nfs b o e), un.free b o (exq_at hok (t b o e)) (utrk_in e)⟩
  have sn : ∀ b, H b = none → S b = none := fun b n => by
    cases e : S b with
    | none => rfl
    | some o => rw [t b o e] at n; cases n
  refine ⟨{
    keep := fun b o z n hf => un.keep b o z (utrk_none n) hf
    slot := un.slot
    free := fun b o z n => by rw [trk_out (sn b n)]; exact un.free b o z (utrk_none n)
    there := un.there
    tups := fun b xs z => ?_
    frzs := fun b o u z => ?_
    tbls := fun b ps z => ?_ }, st⟩
  · have e : S b = none := by
      cases e : S b with
      | none => rfl
      | some o => rw [t b o e] at z; exact absurd (Option.some.inj z) exq_tup
    rw [trk_out e]; exact un.tups b xs (by rw [utrk_out e]; exact z)
  · have e : S b = none := by
      cases e : S b with
      | none => rfl
      | some o' => rw [t b o' e] at z; exact absurd (Option.some.inj z) exq_frz
    rw [trk_out e]; exact un.frzs b o u (by rw [utrk_out e]; exact z)
  · have e : S b = none := by
      cases e : S b with
      | none => rfl
      | some o => rw [t b o e] at z; exact absurd (Option.some.inj z) exq_tbl
    rw [trk_out e]; exact un.tbls b ps (by rw [utrk_out e]; exact z)
end
section
variable {P : Program} {w : World} {K : PySem.W.Frag} {mg : Str → Option Value} {base : Heap} {A : Around} {outer : List Env} {s : Shared} {H : Hp} {S : SO} {Q : VK} {E : XK}
theorem env0_less (e0 : Env0 P w K mg base A outer s H) (t : Tracked S H) : Env0 P w K mg base A outer s (utrk S H) :=
  ⟨e0.frames, e0.mod, fun b o hb => ⟨(e0.bs b o hb).1, utrk_none (e0.bs b o hb).2⟩, e0.bsz, e0.funs, fun b hb => utrk_none (e0.frf b hb), hok_utrk e0.hok t, e0.bare⟩
theorem cr_less (e0 : Env0 P w K mg base A outer s H) (t : Tracked S H) {r : Result} {s' : Shared} (h : CR (L2.CX P w) outer P w (utrk S H) s (fun v H' => (∀ b o, S b = some o → H' b = none) → Q v (trk S H')) (fun c d H' => (∀ b o, S b = some o → H' b = none) → E c d (trk S H')) r s') : CR (L2.CX P w) outer P w H s Q E r s' := by
  cases r with
  | error e =>
    obtain ⟨a, B, H', cls, d, rfl, fl, hokB, ub, na, os, ag, q⟩ := (show L2.CX P w outer (utrk S H) s (fun c d H' => (∀ b o, S b = some o → H' b = none) → E c d (trk S H')) e s' from h)
    obtain ⟨ub2, st⟩ := ub_less ub t e0.hok e0.frf
    refine ⟨a, B, trk S H', cls, d, rfl, fl, hok_trk hokB st, ub2, ?_, os, ag, q fun b o e => (st b o e).2⟩
    have e : S a = none := by
      cases e : S a with
      | none => rfl
      | some o =>
        have z := (st a o e).1
        rw [fl.2.1] at z
        cases z
    rw [trk_out e]
    exact na
  | ok fl =>
    cases fl with
    | ret u =>
      obtain ⟨v, H', os, bare, un, hok, rv, q⟩ := (show CE outer P w (utrk S H) s (fun v H' => (∀ b o, S b = some o → H' b = none) → Q v (trk S H')) u s' from h)
      obtain ⟨un2, st⟩ := un_less un t e0.hok e0.frf
      exact ⟨v, trk S H', os, bare, un2, hok_trk hok st, rv, q fun b o e => (st b o e).2⟩
    | next => exact False.elim h
    | brk => exact False.elim h
    | cont => exact False.elim h
end
end Own

namespace Own
open PySem L2 PySem.HandSPX PyProof.Rows PySem.Spec LamX NdefX
/-! ### a function without parameters that is handed on: what its call reads as -/
structure AskG (P : Program) (w : World) (K : PySem.W.Frag) (mg : Str → Option Value) (base : Heap) (k : Nat) (f : Addr) (G : Hp → Prop) (sp0 : VK → XK → Hp → Prop) : Prop where
  fn : ∀ H h, HOk P w H h → G H → PySem.W.FnAt f h
  run : ∀ (A : Around) (outer : List Env) (s : Shared) (H : Hp) (Q : VK) (E : XK), Room k A → Env0 P w K mg base A outer s H → G H → sp0 Q E H → codeAny (model P w) A (.call (.ref f) ⟨[], []⟩) (CR (L2.CX P w) outer P w H s Q E) s
def Ask (P : Program) (w : World) (K : PySem.W.Frag) (mg : Str → Option Value) (base : Heap) (k : Nat) (H : Hp) (f : Addr) (sp0 : VK → XK → Hp → Prop) : Prop :=
  ∃ G : Hp → Prop, G H ∧ (∀ H H', Same H H' → G H → G H') ∧ AskG P w K mg base k f G sp0
theorem Ask.same {P : Program} {w : World} {K : PySem.W.Frag} {mg : Str → Option Value} {base : Heap} {k : Nat} {H H' : Hp} {f : Addr} {sp0 : VK → XK → Hp → Prop} (a : Ask P w K mg base k H f sp0) (sm : Same H H') : Ask P w K mg base k H' f sp0 := by
  obtain ⟨G, g, st, r⟩ := a
  exact ⟨G, st _ _ sm g, st, r⟩
section
variable {Z : Cx} {i k : Nat} {a : Str} {W : WX} {p1 p2 : Pos}
/-- a(), a a name that holds such a function -/
def tAsk (P : Program) (w : World) (K : PySem.W.Frag) (mg : Str → Option Value) (base : Heap) (k i : Nat) (W : WX) : TE := fun σ H Q => ∃ f sp0, σ[i]? = some (some (.ref f)) ∧ Ask P w K mg base k H f sp0 ∧ sp0 Q (fun cls d H' => W cls d σ H') H
theorem pe_ask (hr : Room k Z.A) (tk : Takes Z W) (hN : Z.N[i]? = some a) (hv : Vis Z.env.scope a) (hd : (a == ("__debug__" : Str)) = false := by decide) (hcd : (a == ("__classdict__" : Str)) = false := by decide) :
    PE Z (.Call (.Name a p1) [] [] p2) (tAsk Z.prog Z.w Z.K Z.mg Z.base k i W) := by
  refine ⟨fun pins s σ H Q I h => ?_⟩
  obtain ⟨f, sp0, hs, ⟨G, g, st, r⟩, q⟩ := h
  refine wpAny_Call_Name_kw (thn ((pe_var (pos := p1) (i := i) hN hv hd hcd).run pins s σ H (fun v H1 => v = .ref f ∧ H1 = H) I ⟨.ref f, hs, rfl, rfl⟩) fun u s1 ⟨v, H1, I1, r1, q1⟩ => ?_)
  obtain ⟨ev, eH⟩ := q1
  subst ev
  rw [eH] at I1
  obtain rfl : u = Value.ref f := r1
  refine PySem.W.callWith_F0 (r.fn _ _ I1.hok g) ?_
  refine wpAny_call (codeAny_mono (r.run Z.A Z.stack s1 H Q _ hr I1.env0 g q) fun r s' hq => ?_)
  cases r with
  | error e => exact tk e s' (XE.of_call I1 (fun cls d H' h => h) hq)
  | ok fl =>
    cases fl with
    | ret u => exact I1.after hq
    | next => exact False.elim hq
    | brk => exact False.elim hq
    | cont => exact False.elim hq
end
/-- what stands while such a lambda may be called -/
structure LamG (S : SO) (f : Addr) (F : NF) (body : Expr) (H : Hp) : Prop where
  lam : H f = some (LamO f F body)
  code : H F.c = some (CodeO F.c F.qual)
  tr : Tracked S H
section
variable {P : Program} {w : World} {K : PySem.W.Frag} {mg : Str → Option Value} {base : Heap} {k : Nat} {f : Addr} {F : NF} {body : Expr} {S : SO} {N fr : List Str} {ws : List (Option V)} {tb : XK → TE} {sp0 : VK → XK → Hp → Prop}
/-- THE RULE: a lambda by its body -/
theorem askG_lam (SN : NScope N [] fr F.scope) (nf : S f = none) (nc : S F.c = none)
    (hbind : ∀ pm ctv : Value, bindArgs (PySem.W.kla_fn "<lambda>" F.qual F.params body F.scope F.cl pm (.ref F.c) ctv) ⟨[], []⟩ = pure [])
    (hC : ∀ (h : Heap) (H : Hp), Stand S h H → CellsAt F.cl fr ws h H)
    (hbody : ∀ (A : Around) (outer : List Env) (s : Shared) (H : Hp) (E : XK), Room k (A.deeper (envF F f s.heap.objs.size)) → PE (ncx (L2.CX P w) P w K mg base N F f A outer s H E) body (tb E))
    (sp : ∀ Q E H, Tracked S H → sp0 Q E H → tb (fun c d H' => (∀ b o, S b = some o → H' b = none) → E c d (trk S H')) (startF N [] ws) (utrk S H) (fun v H' => (∀ b o, S b = some o → H' b = none) → Q v (trk S H'))) :
    AskG P w K mg base (k + 1) f (LamG S f F body) sp0 := by
  refine ⟨fun H h hok g => ?_, fun A outer s H Q E hr e0 g q => ?_⟩
  · obtain ⟨pm, ctv, e⟩ := lamO_at hok g.lam
    exact ⟨_, _, _, _, e⟩
  · have t := g.tr
    refine codeAny_mono ?_ fun r s' hq => cr_less e0 t hq
    have e1 := env0_less e0 t
    have hf : utrk S H f = some (LamO f F body) := by rw [utrk_out nf]; exact g.lam
    have hc : utrk S H F.c = some (CodeO F.c F.qual) := by rw [utrk_out nc]; exact g.code
    obtain ⟨pm, ctv, of1⟩ := lamO_at e1.hok hf
    have lim : s.heap.NoLimit := e0.mod.nolimit.keeps fun b o e => (e0.bs b o e).1
    have st : Stand S s.heap (utrk S H) := fun b o e => ⟨exq_at e0.hok (t b o e), utrk_in e⟩
    refine PySem.W.kla_callFunE hr.depth of1 rfl SN.co SN.gen rfl (codeO_at e1.hok hc) ?_
    rw [hbind pm ctv]
    refine wpAny_pure (wpAny_newFunctionEnv SN.nocell (fun y hy => absurd hy (by simp)) (fun h₁ hns hsb => ⟨lim.fresh _ hsb, ?_⟩) SN.kind)
    show codeAny _ _ (.expr body (envF F f s.heap.objs.size)) _ _
    have kp : ∀ b o, s.heap.get? b = some o → h₁.get? b = some o := fun b o e => hsb.extBut b o (Nat.ne_of_lt (Heap.lt_size e)) (Heap.get?_push_of_some _ e)
    have J : Inv (ncx (L2.CX P w) P w K mg base N F f A outer s (utrk S H) (fun c d H' => (∀ b o, S b = some o → H' b = none) → E c d (trk S H'))) [] (startF N [] ws) (utrk S H) { s with heap := h₁, toks := s.toks + ([] : List (Str × Value)).length } :=
      inv_startN (ps := []) (us := []) SN hr.hd e1 rfl .nil (hC _ _ st) hns kp
    refine PySem.W.kla_codeExpr (wpAny_mono ((hbody A outer s (utrk S H) _ (hr.deeper _)).run [] _ _ (utrk S H) (fun v H' => (∀ b o, S b = some o → H' b = none) → Q v (trk S H')) J (sp Q E H t q)) (fun v s' hq => ?_) fun e s' hq => hq)
    obtain ⟨w', H', J', rv, q'⟩ := hq
    exact ⟨w', H', J'.os, J'.bare, J'.base, J'.hok, rv, q'⟩
theorem lamG_same {H H' : Hp} (sm : Same H H') (g : LamG S f F body H) : LamG S f F body H' := ⟨sm _ _ g.lam, sm _ _ g.code, g.tr.same sm⟩
theorem ask_of {H : Hp} (g : LamG S f F body H) (r : AskG P w K mg base k f (LamG S f F body) sp0) : Ask P w K mg base k H f sp0 := ⟨_, g, fun _ _ sm g => lamG_same sm g, r⟩
end
/-! ### a call that tracks the cells -/
/-- what S tells of the frame's cells: a lambda made in it finds these values -/
def CellsS (X : Cx) (σ : L2.St) (S : SO) : Prop := ∀ (scope : Scope) (fr : List Str) (js : List Nat), (∀ y ∈ scope.names, y.2 = .free → X.env.scope.names.lookup y.1 = some .cell ∨ X.env.scope.names.lookup y.1 = some .free) → (∀ y ∈ fr, (y, NameKind.free) ∈ scope.names) → js.map (fun j => X.N[j]?) = fr.map some →
  ∀ (h : Heap) (H : Hp), Stand S h H → CellsAt (cloFrom X.env.cells scope.names []) fr (js.map (slotAt σ)) h H
/-- g(e, ..), the cells of this frame tracked meanwhile -/
def tCallT (X : Cx) (sp : Sp) (ta : TA) : TE := fun σ H Q => ta σ H fun vs H1 => ∀ S : SO, (∀ b o, S b = some o → H1 b = none) → CellsS X σ S → sp vs (trk S H1) (fun v H2 => Tracked S H2 ∧ Q v (utrk S H2)) (fun _ _ _ => False)
section
variable {X : Cx} {k : Nat} {f : Addr} {fd : FuncData} {ps : List Str} {sp : Sp} {x : Str} {q pos : Pos} {e : Expr} {es : List Expr} {ta : TA} {pins : List (Addr × Obj)} {σ : L2.St} {H : Hp} {s : Shared}
theorem call_cells (I : Inv X pins σ H s) (hfn : ∀ y, X.fn y = true) (hs : X.stack = X.env :: X.outer) (hf : X.env.frame = some X.env.locals) : ∃ S : SO, Stand S s.heap H ∧ (∀ b o, S b = some o → b ∉ frs X.stack ∧ X.base.get? b = none) ∧ CellsS X σ S := by
  have big : ∀ y c, X.env.cells.lookup y = some c → X.s_0.heap.objs.size ≤ c := fun y c e => I.ok.cab y c (hfn y) e
  classical
  refine ⟨fun b => if (∃ y, X.env.cells.lookup y = some b) then s.heap.get? b else none, fun b o e => ?_, fun b o e => ?_, fun scope fr js h1 h2 h3 h H' st => ?_⟩
  · have e' : (if (∃ y, X.env.cells.lookup y = some b) then s.heap.get? b else none) = some o := e
    split at e'
    · rename_i hy
      obtain ⟨y, hy⟩ := hy
      exact ⟨e', I.freeC y b hy⟩
    · cases e'
  · have e' : (if (∃ y, X.env.cells.lookup y = some b) then s.heap.get? b else none) = some o := e
    split at e'
    · rename_i hy
      obtain ⟨y, hy⟩ := hy
      refine ⟨fun hm => ?_, ?_⟩
      · rw [hs] at hm
        obtain ⟨ev, he, hl⟩ := List.mem_filterMap.mp hm
        rcases List.mem_cons.mp he with z | z
        · rw [z, hf] at hl
          cases hl
          exact I.cne y _ hy rfl
        · obtain ⟨_, o', ho', _⟩ := I.ok.funs.mem (List.mem_filterMap.mpr ⟨ev, z, hl⟩)
          exact absurd (Nat.lt_of_lt_of_le (Heap.lt_size ho') (big y b hy)) (Nat.lt_irrefl _)
      · cases hb : X.base.get? b with
        | none => rfl
        | some ob => exact absurd (Nat.lt_of_lt_of_le (Heap.lt_size hb) (Nat.le_trans I.ok.bsz (big y b hy))) (Nat.lt_irrefl _)
    · cases e'
  · have C := cells_of I (Caps.made I.ok h1 h2 h3)
    have hfree : ∀ y ∈ scope.names, y.2 = .free → ∃ c, X.env.cells.lookup y.1 = some c := fun y hy e => (h1 y hy e).elim (fun z => I.ok.has _ (.inl z)) fun z => I.ok.has _ (.inr z)
    have mv : ∀ y c, (cloFrom X.env.cells scope.names []).lookup y = some c → ∀ v, s.heap.IsCell c v → H' c = none ∧ h.IsCell c v := fun y c e v ⟨o, ho, hd⟩ => by
      have hc : X.env.cells.lookup y = some c := clo_cm hfree e
      have z := st c o (by show (if (∃ y, X.env.cells.lookup y = some c) then s.heap.get? c else none) = some o; rw [if_pos ⟨y, hc⟩]; exact ho)
      exact ⟨z.2, o, z.1, hd⟩
    refine ⟨C.len, fun y c e => ?_, C.inj, fun i y e => ?_⟩
    · obtain ⟨_, v, z⟩ := C.all y c e
      exact ⟨(mv y c e v z).1, v, (mv y c e v z).2⟩
    · obtain ⟨c, hc, hv⟩ := C.has i y e
      refine ⟨c, hc, fun v ev => ?_⟩
      obtain ⟨u, r, z⟩ := hv v ev
      exact ⟨u, r, (mv y c hc _ z).2⟩
theorem pe_callT (F : FnOk X.prog X.w X.K X.mg X.base CX0 k f fd ps sp) (hr : Room k X.A) (hfn : ∀ y, X.fn y = true) (hs : X.stack = X.env :: X.outer) (hf : X.env.frame = some X.env.locals) (hg : Gl X x) (hm : X.mg x = some (.ref f)) (hk : PySem.W.keepIn X.K (.ref f) = true) (hb : Binds X.K fd ps [])
    (ha : PA X (e :: es) ta) (hdb : (x == ("__debug__" : Str)) = false := by decide) (he : starEach (e :: es) X.env = (false, eval e X.env) :: starEach es X.env := by rfl) (hpl : (backTo pos (starEach es X.env)).any (·.1) = false := by rfl) :
    PE X (.Call (.Name x q) (e :: es) [] pos) (tCallT X sp ta) := by
  refine ⟨fun pins s σ H Q I h => ?_⟩
  refine wpAny_Call_Name_kw (ld_glob I hg hm ?_ hdb)
  refine PySem.W.callWith_K (h₀ := X.base) I.ok.mod.kin hk (thn (ha.run pos pins s σ H _ I h) fun us s1 ⟨vs, H1, I1, r, q⟩ => ⟨I1.kIn, ?_⟩) he hpl
  obtain ⟨S, st, nf, cs⟩ := call_cells I1 hfn hs hf
  have q1 := q S (fun b o e => (st b o e).2) cs
  have e0 := I1.env0
  have up : ∀ b, H1 b = none → (∀ o, S b ≠ some o) → trk S H1 b = none := fun b n e => by
    cases e2 : S b with
    | none => rw [trk_out e2]; exact n
    | some o => exact absurd e2 (e o)
  have e1 : Env0 X.prog X.w X.K X.mg X.base X.A X.stack s1 (trk S H1) :=
    ⟨e0.frames, e0.mod, fun b o hb => ⟨(e0.bs b o hb).1, up b (e0.bs b o hb).2 fun o' e => by have z := (nf b o' e).2; rw [hb] at z; cases z⟩, e0.bsz, e0.funs, fun b hb => up b (e0.frf b hb) fun o' e => (nf b o' e).1 hb, hok_trk e0.hok st, e0.bare⟩
  have hl : us.length = ps.length := by rw [← r.length]; exact F.len _ _ _ _ q1
  have bb := hb s1 us I1.kIn (by rw [List.append_nil]; exact hl)
  rw [List.append_nil] at bb
  refine wpAny_call (codeAny_mono (F.run X.A X.stack s1 _ ⟨us, []⟩ us _ _ _ hr e1 bb r q1) fun r s' hq => ?_)
  cases r with
  | error er => exact (show False from hq).elim
  | ok fl =>
    cases fl with
    | next => exact False.elim hq
    | brk => exact False.elim hq
    | cont => exact False.elim hq
    | ret u =>
      obtain ⟨v, H2, os2, bare2, un, hok2, rv, t2, q2⟩ := hq
      exact I1.after ⟨v, utrk S H2, os2, bare2, un_more un st (fun b o e => (nf b o e).1) t2 hok2, hok_utrk hok2 t2, rv, q2⟩
end
end Own

namespace Own
open PySem PySem.W PySem.Spec PyProof.Rows Builtin
section
variable {prog : Program} {w : World} {A : Around} {E : Value → Shared → Prop} {K : Frag} {s : Shared} {x f C L : Addr} {ox : Obj} {od : Option Obj} {h₀ : Heap} {m : Str → Option Value} {b tb : Value}
theorem ifBound_ne {M : Model} {args : List Value} {Q : Option Value → Shared → Prop} (X : K.In s.heap) (I : InstAt s.heap x ox C od) (hs : findIn K (.ref C) "__ne__" = some (some (.builtin "object.__ne__")))
    (h : wpAny M A (call (.builtin "object.__ne__") (.ref x :: args)) (fun v => Q (some v)) E s) : wpAny M A (callSpecialIfBound? (.ref x) "__ne__" args) Q E s := by
  simp only [callSpecialIfBound?, bindSpecialIfBound?]
  refine wpAny_holding (wpAny_bind (wpAny_bind (wpAny_bind (I.type.here ((looks_findIn X hs).here ?_)))))
  refine wpAny_bind (wpAny_askSetting (wpAny_ite ?_))
  have fin : wpAny M A (call (.builtin "object.__ne__") ([.ref x] ++ args) >>= fun v => pure (some v)) Q E s := wpAny_bind (wpAny_mono h (fun v s' h' => wpAny_pure h') fun _ _ h' => h')
  have bd := F.cmp_object.ne.bind (.ref x)
  split
  · exact wpAny_bind (by rw [bd]; exact wpAny_pure (wpAny_pure (by exact fin)))
  · exact wpAny_tryCatch (wpAny_bind (by rw [bd]; exact wpAny_pure (wpAny_pure (by exact fin))))
theorem objNe_entry {Q : Fin → Shared → Prop} (X : K.In s.heap) (I : InstAt s.heap x ox C od) (hs : findIn K (.ref C) "__eq__" = some (some (.ref f))) (hf : isFn K (.ref f) = true) (hu : A.units < cLine)
    (hcall : wpAny (model prog w) A (call (.ref f) [.ref x, b]) (fun v s' => ∃ c, v = .bool c ∧ Q (.done (.ret (.bool (!c)))) s') E s) :
    wpAny (model prog w) A (Builtin.«object.__ne__» ⟨[.ref x, b], []⟩) Q E s := by
  unfold Builtin.«object.__ne__»
  repeat (first
    | with_reducible refine wpAny_cRoomFor hu ?_
    | (refine wpAny_bind (m := callSpecialIfBound? (.ref x) (Str.ofString "__eq__") [b])
        (ifBound_K X I hs hf (wpAny_mono hcall (fun r s' hr => by
          obtain ⟨c, rfl, hq⟩ := hr
          repeat (first | exact hq | exact wpAny_pure hq | exact wpAny_truthy_bool hq | (refine wpAny_bind (m := truthy (.bool _)) (wpAny_truthy_bool ?_)) | wp_step)) fun _ _ e => e)))
    | wp_step)
theorem ne_K1 {Q : Value → Shared → Prop} (hu : A.units + 1 < cLine) (F₀ : Fr h₀ L s.heap m) (X₀ : K.In h₀) (I : InstAt s.heap x ox C od) (hb : Looks (model prog w) s.heap (typeOf b) tb) (hn : notFirst K C tb = true)
    (hne : findIn K (.ref C) "__ne__" = some (some (.builtin "object.__ne__"))) (hs : findIn K (.ref C) "__eq__" = some (some (.ref f))) (hf : isFn K (.ref f) = true) (hm : mroIn K C (.type "object") = some true)
    (h : wpAny (model prog w) A.in1 (call (.ref f) [.ref x, b]) (fun v s' => ∃ c, v = .bool c ∧ Q (.bool (!c)) s') E s) : wpAny (model prog w) A (richCompare .NotEq (.ref x) b) Q E s := by
  have X := X₀.keeps F₀.keep
  have hi : Looks (model prog w) s.heap (isInstance (.ref x) (.type "object")) true := I.type.andThen (looks_mroIn X hm)
  have one : wpAny (model prog w) A (tryCompare (.ref x) "__ne__" b) (fun r s' => ∃ v, r = some v ∧ Q v s') E s := by
    unfold tryCompare
    refine wpAny_bind (ifBound_ne X I hne (wpAny_call (codeAny_call_builtin F.cmp_object.ne.plain F.cmpEntry_ne (check_slot F.cmpKind_ne F.cmpSplit_ne hi (F.cmpArgs_ne _ _)
      (objNe_entry (A := A.in1) X I hs hf hu (wpAny_mono h (fun v s' hv => ?_) fun _ _ e => e))))))
    obtain ⟨c, rfl, hq⟩ := hv
    first | exact ⟨c, rfl, wpAny_pure ⟨_, rfl, hq⟩⟩ | exact ⟨c, rfl, ⟨_, rfl, hq⟩⟩ | exact ⟨c, rfl, wpAny_pure (wpAny_pure ⟨_, rfl, hq⟩)⟩
  unfold richCompare
  simp only [oneThing_ref]
  refine wpAny_holding (wpAny_bind (wpAny_cRoomFor (by omega) ?_))
  refine wpAny_bind (I.type.here (wpAny_bind (hb.here ?_)))
  split
  · rename_i q
    have e : subIn K tb (.ref C) = some false := by
      rcases Bool.or_eq_true_iff.mp hn with e | e
      · rw [beq_iff_eq.mp e] at q; simp at q
      · exact beq_iff_eq.mp e
    refine wpAny_bind ((looks_subIn X e).here ?_)
    simp only [Bool.false_eq_true, if_false]
    refine wpAny_bind (wpAny_mono one (fun r s' z => ?_) fun _ _ e => e)
    obtain ⟨v, rfl, hq⟩ := z
    exact wpAny_pure hq
  · refine wpAny_bind (wpAny_pure ?_)
    simp only [Bool.false_eq_true, if_false]
    refine wpAny_bind (wpAny_mono one (fun r s' z => ?_) fun _ _ e => e)
    obtain ⟨v, rfl, hq⟩ := z
    exact wpAny_pure hq
end
end Own

namespace Own
open PySem L2 PySem.Spec PyProof.Rows
/-- x != y, x an instance of a class with its own __eq__ and no __ne__ -/
def rOwnNe (K : PySem.W.Frag) (C : Addr) (sp : Sp) : V → V → Hp → VK → Prop := fun x y H Q => ∃ (a dx : Addr) (fs : List (Str × V)) (tb : Value), x = .ref a ∧ H a = some (.ins C dx fs) ∧ TyX K H y tb ∧ PySem.W.notFirst K C tb = true ∧ sp [.ref a, y] H (fun z H' => ∃ b, z = .bl b ∧ Q (.bl (!b)) H') (fun _ _ _ => False)
theorem op_neOwn {X : Cx} {CX : CXT} {n : Nat} {C f : Addr} {fd : FuncData} {ps : List Str} {sp : Sp} (F : FnOk X.prog X.w X.K X.mg X.base CX n f fd ps sp) (hr : Room (n + 1) X.A) (hs : PySem.W.findIn X.K (.ref C) "__eq__" = some (some (.ref f))) (hne : PySem.W.findIn X.K (.ref C) "__ne__" = some (some (.builtin "object.__ne__"))) (hmo : PySem.W.mroIn X.K C (.type "object") = some true)
    (hf : PySem.W.isFn X.K (.ref f) = true) (hb : Binds X.K fd ps []) (hx : Passes CX X (fun _ _ _ => False)) : OpR X (compareOp .NotEq) (rOwnNe X.K C sp) := by
  intro pins s σ H x y v u Q I rx ry h
  obtain ⟨a, dx, fs, tb, rfl, ha, ty, nf, q⟩ := h
  cases rx
  show wpAny (model X.prog X.w) X.A (richCompare .NotEq (.ref a) u) (EP X pins σ Q) X.xe s
  obtain ⟨mA, J, _⟩ := ins_get I.hok ha
  obtain ⟨od, J, _⟩ := J.look
  obtain ⟨Pz, Z, pz, _⟩ := kit_of I ry ty
  obtain ⟨m, hF⟩ := I.fr
  refine ne_K1 (by have := hr.units; omega) hF I.ok.mod.kin J (Z.ty _ _ I.kIn pz) nf hne hs hf hmo ?_
  have r2 : Vals [V.ref a, y] [Value.ref a, u] := .cons rfl (.cons ry .nil)
  have hl : [Value.ref a, u].length = ps.length := by
    have e := F.len _ _ _ _ q
    exact e
  have bb := hb s [Value.ref a, u] I.kIn (by rw [List.append_nil]; exact hl)
  rw [List.append_nil] at bb
  refine wpAny_call (codeAny_mono (F.run X.A.in1 X.stack s H ⟨[.ref a, u], []⟩ _ _ _ _ hr.in1 I.env0.in1 bb r2 q) fun r s' hq => ?_)
  cases r with
  | error e => exact hx pins σ H s e s' I hq
  | ok fl =>
    cases fl with
    | ret w =>
      obtain ⟨z, H', I', rz, b, ez, qz⟩ := I.after hq
      subst ez
      obtain rfl : w = Value.bool b := rz
      exact ⟨b, rfl, .bl (!b), H', I', rfl, qz⟩
    | next => exact False.elim hq
    | brk => exact False.elim hq
    | cont => exact False.elim hq
/-- C(), C's __init__ takes any number of arguments -/
theorem pe_mkS0 {X : Cx} {CX : CXT} {k : Nat} {f C : Addr} {gV : List V → List V} {sp : Sp} {E : XK} {x : Str} {p pos : Pos} (M : Mk X.K C f) (F : FnSt X.prog X.w X.K X.mg X.base CX k f [] gV sp) (hr : Room (k + 1) X.A) (hg : Gl X x) (hm : X.mg x = some (.ref C)) (hx : Passes CX X E) (hdb : (x == ("__debug__" : Str)) = false := by decide) :
    PE X (.Call (.Name x p) [] [] pos) (fun _ H Q => tMkS C sp gV E [] [] H Q) := by
  refine ⟨fun pins s σ H Q I h => wpAny_Call_Name_kw (ld_glob I hg hm (PySem.W.callWith_K0 I.kIn M.kp ?_) hdb)⟩
  exact run_mkS (us := []) (ws := []) M F hr hx I .nil .nil rfl h
end Own

namespace Own
open PySem L2
def topT (i : Nat) : Stmt := PySem.Challenge.pw_ownchute_k04_lines_changed.main.body.getD i (.Pass ⟨0, 0, 0, 0⟩)
abbrev sNum : Stmt := topT 2
abbrev sCkRooms : Stmt := topT 15
abbrev sCkNum : Stmt := topT 16
abbrev sCkWord : Stmt := topT 17
/-- a tuple of the top -/
def KT (K : PySem.W.Frag) (a : Addr) (xs : List V) : Prop := ∃ (o : Obj) (its : Array Value) (n : Nat), K.lookup a = some o ∧ o.cls = .type "tuple" ∧ o.data = .seq its n ∧ its.size ≤ sizeLine ∧ Vals xs its.toList
def numB : PyData → Int → Int → Bool
  | .int n, lo, hi => decide (lo ≤ n) && decide (n ≤ hi)
  | _, _, _ => false
def spNum (K : PySem.W.Frag) : Sp := fun vs H Q _ => ∃ (n lo hi : Int), vs = [.int n, .int lo, .int hi] ∧ Q (.bl (decide (lo ≤ n) && decide (n ≤ hi))) H
def spCkNum : Sp := fun vs H Q _ => ∃ (n lo hi : Int), vs = [.int n, .int lo, .int hi] ∧ lo ≤ n ∧ n ≤ hi ∧ Q .non H
def spCkWord (K : PySem.W.Frag) : Sp := fun vs H Q _ => ∃ (z : Str) (t : Addr) (ws : List V), vs = [.str z, .ref t] ∧ SqT K H t ws ∧ ws.all flatV = true ∧ inV (.str z) ws = true ∧ Q .non H
def spCkRooms (K : PySem.W.Frag) : Sp := fun vs H Q _ => ∃ (t : Addr) (rs : List Int) (most : Int), vs = [.ref t, .int most] ∧ SqT K H t (rs.map V.int) ∧ 1 ≤ rs.length ∧ rs.length ≤ 3 ∧ (∀ r, r ∈ rs → 1 ≤ r ∧ r ≤ most) ∧ Q .non H
section
variable {P : Program} {w : World} {K : PySem.W.Frag} {mg : Str → Option Value} {base : Heap}
theorem scNum : FnScope ["value", "least", "most"] ["value", "least", "most"] (defScope sNum) := ⟨rfl, rfl, rfl, by decide +kernel, rfl, by decide +kernel, by decide +kernel⟩
theorem ok_num {f : Addr} {fd : FuncData} (F : Fun K "is_number" "is_number" sNum f fd) (zI : mg "isinstance" = none) (zB : mg "bool" = none) (zN : mg "int" = none) : FnOk P w K mg base CX0 1 f fd ["value", "least", "most"] (spNum K) := by
  refine F.ok scNum (fun vs H Q E h => ?_) (fun cdv A outer s H vs Q E hr h => ?_)
  · obtain ⟨n, lo, hi, rfl, _⟩ := h
    rfl
  · obtain ⟨n, lo, hi, rfl, k⟩ := h
    refine ⟨_, pss_cons (ps_if (PW.pt (pw_or (pt_val (pe_callB call_isi (by rfl) zI (by decide +kernel) (pa_cons (pv 0) (pa_cons (pe_bltn (v := .ty "bool") (by rfl) zB (by decide +kernel) rfl) pa_nil)))) (pw_or1 (pt_not (pt_val (pe_callB call_isi (by rfl) zI (by decide +kernel) (pa_cons (pv 0) (pa_cons (pe_bltn (v := .ty "int") (by rfl) zN (by decide +kernel) rfl) pa_nil))))))))
      (pss_one (ps_ret pe_bl)) pss_nil) (pss_one (ps_ret (pe_chain op_le op_le (pv 1) (pv 0) (pv 2)))), ?_⟩
    refine ⟨_, rfl, _, _, .type "int", .type "bool", false, rfl, .ty _, .base (.int n), kit_ty (by decide +kernel), false, rfl, iteF ?_⟩
    refine ⟨_, rfl, _, _, .type "int", .type "int", true, rfl, .ty _, .base (.int n), kit_ty (by decide +kernel), true, rfl, iteF ?_⟩
    refine ⟨_, rfl, _, rfl, _, _, rfl, rfl, _, rfl, ite2 (fun c => ⟨_, rfl, _, _, rfl, rfl, ?_⟩) (fun c => ?_)⟩
    · rw [c] at k; exact k
    · rw [Bool.eq_false_iff.mpr c] at k; exact k
theorem scCkNum : FnScope ["value", "least", "most"] ["value", "least", "most"] (defScope sCkNum) := ⟨rfl, rfl, rfl, by decide +kernel, rfl, by decide +kernel, by decide +kernel⟩
theorem ok_cknum {f fN : Addr} {fd fdN : FuncData} (F : Fun K "check_number" "check_number" sCkNum f fd) (GN : FnOk P w K mg base CX0 1 fN fdN ["value", "least", "most"] (spNum K)) (mN : mg "is_number" = some (.ref fN)) (kN : PySem.W.keepIn K (.ref fN) = true) (bN : Binds K fdN ["value", "least", "most"] []) :
    FnOk P w K mg base CX0 2 f fd ["value", "least", "most"] spCkNum := by
  refine F.ok scCkNum (fun vs H Q E h => ?_) (fun cdv A outer s H vs Q E hr h => ?_)
  · obtain ⟨n, lo, hi, rfl, _⟩ := h
    rfl
  · obtain ⟨n, lo, hi, rfl, h1, h2, k⟩ := h
    refine ⟨_, pss_one (ps_if (pt_not (pt_val (pe_call GN hr rfl mN kN bN .nil pass0 (pa_cons (pv 0) (pa_cons (pv 1) (pa_cons (pv 2) pa_nil)))))) (pss_one ps_never) pss_nil), ?_⟩
    refine ⟨_, rfl, _, rfl, _, rfl, n, lo, hi, rfl, _, rfl, ?_⟩
    rw [decide_eq_true h1, decide_eq_true h2]
    exact iteF k
theorem scCkWord : FnScope ["value", "words"] ["value", "words"] (defScope sCkWord) := ⟨rfl, rfl, rfl, by decide +kernel, rfl, by decide +kernel, by decide +kernel⟩
theorem ok_ckword {f : Addr} {fd : FuncData} (F : Fun K "check_word" "check_word" sCkWord f fd) : FnOk P w K mg base CX0 1 f fd ["value", "words"] (spCkWord K) := by
  refine F.ok scCkWord (fun vs H Q E h => ?_) (fun cdv A outer s H vs Q E hr h => ?_)
  · obtain ⟨z, t, ws, rfl, _⟩ := h
    rfl
  · obtain ⟨z, t, ws, rfl, ht, hf, hi, k⟩ := h
    refine ⟨_, pss_one (ps_if (pt_cmpR op_notIn_seq (pv 0) (pv 1) (by rfl)) (pss_one ps_never) pss_nil), ?_⟩
    refine ⟨_, rfl, _, rfl, t, ws, rfl, .inr ht, rfl, hf, _, rfl, ?_⟩
    show if (!inV (.str z) ws) = true then _ else _
    rw [hi]
    exact iteF k
theorem scCkRooms : FnScope ["rooms", "most", "room"] ["rooms", "most"] (defScope sCkRooms) := ⟨rfl, rfl, rfl, by decide +kernel, rfl, by decide +kernel, by decide +kernel⟩
theorem ok_ckrooms {f fN : Addr} {fd fdN : FuncData} {tk : Tok} (F : Fun K "check_rooms" "check_rooms" sCkRooms f fd) (GN : FnOk P w K mg base CX0 2 fN fdN ["value", "least", "most"] spCkNum) (mN : mg "check_number" = some (.ref fN)) (kN : PySem.W.keepIn K (.ref fN) = true) (bN : Binds K fdN ["value", "least", "most"] []) (zL : mg "len" = none) (mB : mg "MOST_BELTS" = some (.int 3 tk)) :
    FnOk P w K mg base CX0 3 f fd ["rooms", "most"] (spCkRooms K) := by
  refine F.ok scCkRooms (fun vs H Q E h => ?_) (fun cdv A outer s H vs Q E hr h => ?_)
  · obtain ⟨t, rs, most, rfl, _⟩ := h
    rfl
  · obtain ⟨t, rs, most, rfl, ht, h1, h3, hall, k⟩ := h
    refine ⟨_, pss_cons (ps_if (pt_not (pt_chain op_le op_le pe_int (pe_callB call_len_seq (by rfl) zL PySem.boot_len (pa_cons (pv 0) pa_nil)) (pe_glob (v := .int 3) (by rfl) mB ⟨_, rfl⟩))) (pss_one ps_never) pss_nil)
      (pss_one (ps_for PassesOwn.never rfl (pi_tup (pv 0)) (pg_name (i := 2) scCkRooms.nd rfl (Or.inl rfl)) (pss_one (ps_expr (pe_call GN hr rfl mN kN bN .nil pass0 (pa_cons (pv 2) (pa_cons pe_int (pa_cons (pv 1) pa_nil)))))))), ?_⟩
    have hl : (rs.map V.int).length = rs.length := List.length_map _
    refine ⟨_, rfl, t, _, rfl, .inr ht, _, _, rfl, rfl, _, rfl, ?_⟩
    rw [show decide ((1 : Int) ≤ ((rs.map V.int).length : Nat)) = true from decide_eq_true (by rw [hl]; omega)]
    refine iteT ⟨_, _, rfl, rfl, _, rfl, ?_⟩
    rw [show decide ((((rs.map V.int).length : Nat) : Int) ≤ 3) = true from decide_eq_true (by rw [hl]; omega)]
    refine iteF ?_
    refine ⟨_, rfl, t, rfl, ⟨_, ht⟩, for_tup (K := K) (a := t) (xs := rs.map V.int) (fun i σ H' => ∃ v : Option V, σ = [some (.ref t), some (.int most), v] ∧ H' = H) ⟨_, rfl, rfl⟩ ?_ ?_ ?_⟩
    · rintro i σ H' _ ⟨v, rfl, rfl⟩
      exact ht
    · rintro i y σ H' hi ⟨v, rfl, rfl⟩
      obtain ⟨u, hu, rfl⟩ : ∃ u, rs[i]? = some u ∧ y = V.int u := by
        rw [List.getElem?_map] at hi
        cases e : rs[i]? with
        | none => rw [e] at hi; cases hi
        | some u => rw [e] at hi; exact ⟨u, rfl, (Option.some.inj hi).symm⟩
      obtain ⟨q1, q2⟩ := hall u (List.mem_of_getElem? hu)
      exact ⟨_, rfl, _, rfl, u, 1, most, rfl, q1, q2, _, rfl, rfl⟩
    · rintro σ H' ⟨v, rfl, rfl⟩
      exact k
end
end Own

namespace Own
open PySem L2 ClX
/-! ### len(o), repr(o) of an own instance -/
section
variable {X : Cx} {CX : CXT} {k : Nat} {C f : Addr} {fd : FuncData} {ps : List Str} {sp : Sp}
/-- what a special method of an own class must be -/
structure Spec1 (K : PySem.W.Frag) (C f : Addr) (name : Str) : Prop where
  at_ : PySem.W.findIn K (.ref C) name = some (some (.ref f))
  fn : PySem.W.isFn K (.ref f) = true
def rLenO (C : Addr) (sp : Sp) : List V → Hp → VK → Prop := fun xs H Q => ∃ (a dx : Addr) (fs : List (Str × V)), xs = [.ref a] ∧ H a = some (.ins C dx fs) ∧ sp [.ref a] H (fun v H' => (∃ n : Int, v = .int n ∧ 0 ≤ n ∧ n < 2 ^ 63) ∧ Q v H') (fun _ _ _ => False)
def rRepO (C : Addr) (sp : Sp) : List V → Hp → VK → Prop := fun xs H Q => ∃ (a dx : Addr) (fs : List (Str × V)), xs = [.ref a] ∧ H a = some (.ins C dx fs) ∧ sp [.ref a] H (fun v H' => (∃ z : Str, v = .str z) ∧ Q v H') (fun _ _ _ => False)
theorem run_in1 {pins : List (Addr × Obj)} {σ : L2.St} {H : Hp} {s : Shared} {Q : VK} {a : Addr} (F : FnOk X.prog X.w X.K X.mg X.base CX k f fd ps sp) (hr : Room (k + 1) X.A) (hb : Binds X.K fd ps []) (hx : Passes CX X (fun _ _ _ => False)) (I : Inv X pins σ H s) (h : sp [.ref a] H Q (fun _ _ _ => False)) :
    wpAny (model X.prog X.w) X.A.in1 (call (.ref f) [.ref a]) (EP X pins σ Q) X.xe s := by
  have hl : ([Value.ref a] ++ []).length = ps.length := by
    rw [← F.len _ _ _ _ h]
    rfl
  have b := hb s [.ref a] I.kIn hl
  rw [List.append_nil] at b
  refine wpAny_call (codeAny_mono (F.run X.A.in1 X.stack s H ⟨[.ref a], []⟩ [.ref a] [.ref a] Q _ hr.in1 I.env0.in1 b (.cons rfl .nil) h) fun r s' hq => ?_)
  cases r with
  | error er => exact hx pins σ H s er s' I hq
  | ok fl =>
    cases fl with
    | ret u => exact I.after hq
    | next => exact False.elim hq
    | brk => exact False.elim hq
    | cont => exact False.elim hq
theorem call_lenO (S : Spec1 X.K C f "__len__") (F : FnOk X.prog X.w X.K X.mg X.base CX k f fd ps sp) (hr : Room (k + 1) X.A) (hb : Binds X.K fd ps []) (hx : Passes CX X (fun _ _ _ => False)) : CallR X (.builtin "len") (rLenO C sp) := by
  intro pins s σ H xs us Q I r h
  obtain ⟨a, dx, fs, rfl, ha, q⟩ := h
  obtain ⟨u, rfl, rx⟩ := vals1 r
  cases (show u = Value.ref a from rx)
  obtain ⟨mA, J, _⟩ := ins_get I.hok ha
  obtain ⟨od, J, _⟩ := J.look
  obtain ⟨m, hF⟩ := I.fr
  refine PySem.W.len_K hF I.ok.mod.kin J S.at_ S.fn (thn (run_in1 F hr hb hx I q) fun w s' ⟨v, H', I', rv, ⟨n, ev, h0, h1⟩, qv⟩ => ?_)
  subst ev
  obtain ⟨t, rfl⟩ := rv
  exact ⟨⟨h0, h1⟩, ⟨.int n, H', I'.tok _, ⟨_, rfl⟩, qv⟩⟩
theorem call_repO (S : Spec1 X.K C f "__repr__") (F : FnOk X.prog X.w X.K X.mg X.base CX k f fd ps sp) (hr : Room (k + 1) X.A) (hb : Binds X.K fd ps []) (hx : Passes CX X (fun _ _ _ => False)) : CallR X (.builtin "repr") (rRepO C sp) := by
  intro pins s σ H xs us Q I r h
  obtain ⟨a, dx, fs, rfl, ha, q⟩ := h
  obtain ⟨u, rfl, rx⟩ := vals1 r
  cases (show u = Value.ref a from rx)
  obtain ⟨mA, J, _⟩ := ins_get I.hok ha
  obtain ⟨od, J, _⟩ := J.look
  obtain ⟨m, hF⟩ := I.fr
  refine PySem.W.repr_K hr.in1.units0 hF I.ok.mod.kin J S.at_ S.fn (thn (run_in1 F hr hb hx I q) fun w s' ⟨v, H', I', rv, ⟨z, ev⟩, qv⟩ => ?_)
  subst ev
  obtain ⟨t, rfl⟩ := rv
  exact ⟨.str z, H', I', ⟨_, rfl⟩, qv⟩
end
end Own

namespace Own
open PySem L2 ClX PySem.Spec PyProof.Rows
/-! ### def f(self, **d): the keywords stand in a new dict -/
section
variable {prog : Program} {w : World} {A : Around} {E : Value → Shared → Prop} {d : Addr}
theorem ns_put {s : Shared} {es : List DictEntry} {n : Nat} {k : Str} {v : Value} {Q : Unit → Shared → Prop} (D : s.heap.get? d = some (PySem.W.dictOf es n)) (hs : ∀ e ∈ es, e.key.isStr k = false) (hr : ∀ e ∈ es, e.refKey = false)
    (h : ∀ h' : Heap, h'.get? d = some (PySem.W.dictOf (es ++ [⟨PyData.keyHash w.params k, .str k s.toks, v⟩]) (n + 1)) → (∀ b u, b ≠ d → s.heap.get? b = some u → h'.get? b = some u) → Q () { s with heap := h', toks := s.toks + 1 }) :
    wpAny (model prog w) A (nsSet d k v) Q E s := by
  have e1 : es.any (·.key.isStr k) = false := by
    cases q : es.any (·.key.isStr k) with
    | false => rfl
    | true => obtain ⟨e, he, z⟩ := List.any_eq_true.mp q; rw [hs e he] at z; cases z
  have e2 : es.any (·.refKey) = false := by
    cases q : es.any (·.refKey) with
    | false => rfl
    | true => obtain ⟨e, he, z⟩ := List.any_eq_true.mp q; rw [hr e he] at z; cases z
  have e : Obj.putName k (PyData.keyHash w.params k) (.str k s.toks) v (PySem.W.dictOf es n) = PySem.W.dictOf (es ++ [⟨PyData.keyHash w.params k, .str k s.toks, v⟩]) (n + 1) := by
    rw [PySem.W.putName_dict, PySem.W.putL_new hs]
    show PySem.W.dictOf _ (if es.any (·.key.isStr k) then n else n + 1) = _
    rw [e1, if_neg Bool.false_ne_true]
  have c : aRefKeyMayBeTheName k es.toArray = false := by
    rw [aRefKeyMayBeTheName_at, ← Array.any_toList, ← Array.any_toList]
    show (!es.any (·.key.isStr k) && es.any (·.refKey)) = false
    rw [e2, Bool.and_false]
  unfold nsSet
  refine wpAny_bind (wpAny_bind (wpAny_askSetting (wpAny_pure (wpAny_bind (wpAny_mkText (wpAny_bind (wpAny_loadPart D ?_)))))))
  dsimp only
  rw [c]
  refine wpAny_updatePart D (h _ ?_ fun b u hb q => ?_)
  · rw [← e]
    exact Heap.get?_update_self (Obj.putName k (PyData.keyHash w.params k) (.str k s.toks) v) D (by rw [e]; rfl)
  · exact (Heap.get?_update_other _ _ (Ne.symm hb)).trans q
theorem ns_fill {Q : PUnit → Shared → Prop} : ∀ (ex : List (Str × Value)) (s : Shared) (es : List DictEntry) (n : Nat), s.heap.get? d = some (PySem.W.dictOf es n) →
    (∀ e ∈ es, ∀ x ∈ ex, e.key.isStr x.1 = false) → (∀ e ∈ es, e.refKey = false) → (ex.map (·.1)).Nodup →
    (∀ h' : Heap, h'.get? d = some (PySem.W.dictOf (es ++ PySem.W.kwEs w.params s.toks ex) (n + ex.length)) → (∀ b u, b ≠ d → s.heap.get? b = some u → h'.get? b = some u) → Q ⟨⟩ { s with heap := h', toks := s.toks + ex.length }) →
    wpAny (model prog w) A (forIn ex PUnit.unit fun x _ => (nsSet d x.1 x.2 >>= fun _ => pure (ForInStep.yield PUnit.unit))) Q E s
  | [], s, es, n, D, _, _, _, h => by
    rw [List.forIn_nil]
    refine wpAny_pure (h s.heap ?_ fun _ _ _ q => q)
    show s.heap.get? d = some (PySem.W.dictOf (es ++ []) n)
    rw [List.append_nil]
    exact D
  | x :: r, s, es, n, D, hs, hr, hn, h => by
    obtain ⟨hn1, hn2⟩ := List.nodup_cons.mp (show (x.1 :: r.map (·.1)).Nodup from hn)
    rw [List.forIn_cons]
    refine wpAny_bind (wpAny_bind (ns_put D (fun e he => hs e he x (.head _)) hr fun h' D' kp => wpAny_pure ?_))
    show wpAny (model prog w) A (forIn r PUnit.unit fun x _ => (nsSet d x.1 x.2 >>= fun _ => pure (ForInStep.yield PUnit.unit))) Q E { s with heap := h', toks := s.toks + 1 }
    refine ns_fill r { s with heap := h', toks := s.toks + 1 } _ _ D' (fun e he y hy => ?_) (fun e he => ?_) hn2 fun h'' D'' kp' => ?_
    · rcases List.mem_append.mp he with he | he
      · exact hs e he y (.tail _ hy)
      · obtain rfl := List.mem_singleton.mp he
        show (x.1 == y.1) = false
        exact beq_eq_false_iff_ne.mpr fun q => hn1 (by rw [q]; exact List.mem_map_of_mem hy)
    · rcases List.mem_append.mp he with he | he
      · exact hr e he
      · obtain rfl := List.mem_singleton.mp he
        rfl
    · have t1 : s.toks + 1 + r.length = s.toks + (r.length + 1) := by omega
      have t2 : n + 1 + r.length = n + (r.length + 1) := by omega
      show Q ⟨⟩ { s with heap := h'', toks := s.toks + 1 + r.length }
      rw [t1]
      refine h h'' ?_ fun b u hb q => kp' b u hb (kp b u hb q)
      rw [t2, List.append_assoc] at D''
      exact D''
end
def kwV : List (Str × V) → List (Key × V) := fun l => l.map fun p => (Sum.inr p.1, p.2)
def kwU : List (Str × Value) → List (Key × Value) := fun l => l.map fun p => (Sum.inr p.1, p.2)
theorem kw_pairs {P : Program} {w : World} : ∀ (ex : List (Str × Value)) (t : Tok), Pairs (mixKind P w) (PySem.W.kwEs w.params t ex) (kwU ex)
  | [], _ => Pairs.nil
  | x :: r, t => Pairs.cons (mixKind_str P w x.1 t) rfl (kw_pairs r (t + 1))
theorem kw_keys {P : Program} {w : World} {ex : List (Str × Value)} {t : Tok} : KeysOf (mixKind P w) (PySem.W.kwEs w.params t ex).toArray := fun e he => by
  obtain ⟨k, u, hk, hh⟩ := PySem.W.kwEs_key ex t e (List.mem_toArray.mp he)
  exact ⟨.inr k, by rw [hk]; exact mixKind_str P w k u, hh⟩
theorem kw_kv : ∀ {ks : List Str} {zs : List V} {ws : List Value}, Vals zs ws → KV (kwV (ks.zip zs)) (kwU (ks.zip ws))
  | [], _, _, _ => .nil
  | _ :: _, _, _, .nil => .nil
  | _ :: _, _, _, .cons a r => .cons ⟨rfl, a⟩ (kw_kv r)
theorem kw_nd {ks : List Str} : ∀ {ex : List (Str × Value)}, (ex.map (·.1)).Nodup → ((kwU ex).map (·.1)).Nodup
  | [], _ => List.nodup_nil
  | x :: r, h => by
    obtain ⟨h1, h2⟩ := List.nodup_cons.mp (show (x.1 :: r.map (·.1)).Nodup from h)
    show ((Sum.inr x.1 : Key) :: (kwU r).map (·.1)).Nodup
    refine List.nodup_cons.mpr ⟨fun z => h1 ?_, kw_nd (ks := ks) h2⟩
    obtain ⟨y, hy, e⟩ := List.mem_map.mp z
    obtain ⟨p, hp, rfl⟩ := List.mem_map.mp hy
    have e : (Sum.inr p.1 : Key) = Sum.inr x.1 := e
    rw [← Sum.inr.inj e]
    exact List.mem_map_of_mem hp
/-- o.m(k = v, ..) of a def m(self, **d): what it promises by the values -/
def FnKw (P : Program) (w : World) (K : PySem.W.Frag) (mg : Str → Option Value) (base : Heap) (CX : CXT) (k : Nat) (f : Addr) (ks : List Str) (sp : Sp) : Prop :=
  ∀ (A : Around) (outer : List Env) (s : Shared) (H : Hp) (a : Value) (va : V) (ws : List Value) (zs : List V) (Q : VK) (E : XK), Room k A → Env0 P w K mg base A outer s H → RelV va a → Vals zs ws → zs.length = ks.length →
    (∀ p, H p = none → sp [va, .ref p] (upd H p (.dK (kwV (ks.zip zs)))) Q E) → codeAny (model P w) A (.call (.ref f) ⟨[a], ks.zip ws⟩) (CR CX outer P w H s Q E) s
section
variable {CX : CXT} {P : Program} {w : World} {K : PySem.W.Frag} {mg : Str → Option Value} {base : Heap} {k : Nat} {f : Addr} {name qual pd p0 : Str} {params : Arguments} {body : List Stmt} {scope : Scope} {dV kV doc pm cdv ct oc : Value} {an od : Option Addr} {osl : Array (Option Value)} {N ks : List Str} {sp : Sp}
theorem map_zip_fst : ∀ {ks : List Str} {ws : List Value}, ws.length = ks.length → (ks.zip ws).map (·.1) = ks
  | [], _, _ => rfl
  | _ :: _, [], h => by cases h
  | k :: ks, _ :: ws, h => by
    show k :: (ks.zip ws).map (·.1) = k :: ks
    rw [map_zip_fst (Nat.succ.inj h)]
theorem fn_kwo (lk : K.lookup f = some ⟨oc, od, .func (PySem.W.fnOf name qual params body scope dV kV doc pm an cdv ct), osl⟩) (hcd : PySem.W.codeIn K cdv qual = true) (S : FnScope N [p0, pd] scope) (hCX : StX.CXUp CX) (hnd : ks.Nodup) (hsz : ks.length ≤ sizeLine)
    (hb : ∀ (a : Value) (ws : List Value), ws.length = ks.length → bindArgs (PySem.W.fnOf name qual params body scope dV kV doc pm an cdv ct) ⟨[a], ks.zip ws⟩ =
      (alloc ({ cls := .type "dict", data := .dict #[] } : Obj) : Sem Addr) >>= fun d => (forIn (ks.zip ws) PUnit.unit fun x _ => (nsSet d x.1 x.2 >>= fun _ => pure (ForInStep.yield PUnit.unit))) >>= fun _ => pure [(p0, a), (pd, Value.ref d)])
    (hbody : ∀ (A : Around) (outer : List Env) (s : Shared) (H : Hp) (vs : List V) (Q : VK) (E : XK), Room k (A.deeper (envOfC qual scope s.heap.objs.size f cdv)) → sp vs H Q E →
      ∃ t, PSs (cxOf CX P w K mg base N qual scope f cdv A outer s H E) body t ∧ t { nx := fun _ H' => Q .non H', rt := Q } (start N vs) H) :
    FnKw P w K mg base CX (k + 1) f ks sp := by
  intro A outer s H a va ws zs Q E hr e0 ra rz hzl hq
  have hn : H s.heap.objs.size = Option.none := e0.hok.fresh (Nat.le_refl _)
  have hwl : ws.length = ks.length := by rw [← rz.length]; exact hzl
  have hnd' : ((ks.zip ws).map (·.1)).Nodup := by rw [map_zip_fst hwl]; exact hnd
  refine StX.run_bnd (ps := [p0, pd]) lk hcd S hr e0 (G := fun xs H2 => ∃ p, H p = Option.none ∧ xs = [va, V.ref p] ∧ H2 = upd H p (.dK (kwV (ks.zip zs)))) (fun A' Ex Q' h => ?_) fun s2 H2 xs ⟨p, hp, ex, eH⟩ hr' => ?_
  · rw [hb a ws hwl]
    have g0 : (s.heap.push (PySem.W.dictOf [] 0)).get? s.heap.objs.size = some (PySem.W.dictOf [] 0) := Heap.get?_push_size _ rfl
    refine wpAny_bind (wpAny_alloc (wpAny_bind ?_))
    refine ns_fill (ks.zip ws) { s with heap := s.heap.push (PySem.W.dictOf [] 0) } [] 0 g0 (fun _ he => nomatch he) (fun _ he => nomatch he) hnd' fun h' D' kp => wpAny_pure ?_
    have kp2 : ∀ b u, s.heap.get? b = some u → h'.get? b = some u := fun b u q => kp b u (Nat.ne_of_lt (Heap.lt_size q)) (Heap.get?_push_of_some _ q)
    have new : ObjOk P w (upd H s.heap.objs.size (.dK (kwV (ks.zip zs)))) h' s.heap.objs.size (.dK (kwV (ks.zip zs))) := by
      refine ⟨?_, beq_eq_false_iff_ne.mpr (Ne.symm (Nat.ne_of_lt (StX.env0_big e0))), kwU (ks.zip ws), kw_kv rz, _, _, _, D', ⟨rfl, rfl, rfl⟩, rfl, kw_keys, kw_pairs _ _, kw_nd (ks := ks) hnd'⟩
      show ((ks.zip zs).map _).length ≤ sizeLine
      rw [List.length_map, List.length_zip]
      omega
    have un : Un (frs outer) [] H (upd H s.heap.objs.size (.dK (kwV (ks.zip zs)))) s.heap h' := Un.laid kp2 (Nat.le_refl _) hn
    have hlt : s.heap.objs.size < h'.objs.size := Heap.lt_size D'
    have e2 : Env0 P w K mg base A outer { s with heap := h', toks := s.toks + (ks.zip ws).length } (upd H s.heap.objs.size (.dK (kwV (ks.zip zs)))) := by
      refine ⟨e0.frames, e0.mod, fun b x e => ⟨kp2 b x (e0.bs b x e).1, ?_⟩, Nat.le_trans e0.bsz (Nat.le_of_lt hlt), Heap.FunFrames.of_keeps (fun b x e _ => ⟨x, kp2 b x e, rfl⟩) e0.funs, fun b hb => ?_, e0.hok.laid kp2 (Nat.le_refl _) new, e0.bare⟩
      · rw [upd_ne (Nat.ne_of_lt (Heap.lt_size (e0.bs b x e).1))]
        exact (e0.bs b x e).2
      · obtain ⟨_, x, hx, _⟩ := e0.funs.mem hb
        rw [upd_ne (Nat.ne_of_lt (Heap.lt_size hx))]
        exact e0.frf b hb
    exact h _ _ [va, V.ref s.heap.objs.size] [a, Value.ref s.heap.objs.size] e2 un rfl (fun e s' => hCX outer s H _ _ E e s' un kp2 rfl) (.cons ra (.cons rfl .nil)) rfl ⟨_, hn, rfl, rfl⟩
  · subst ex eH
    exact hbody A outer s2 _ _ Q E hr' (hq p hp)
end
/-- o.m(k = v, ..) of an instance of C -/
def tMethKw (C : Addr) (m : Str) (ks : List Str) (sp : Sp) (E : XK) (ta : TE) (tk : TA) : TE := fun σ H Q => ta σ H fun x H1 => ∃ a dx fs, x = .ref a ∧ H1 a = some (.ins C dx fs) ∧ fs.lookup m = none ∧
  tk σ H1 fun zs H2 => zs.length = ks.length ∧ ∀ p, H2 p = none → sp [x, .ref p] (upd H2 p (.dK (kwV (ks.zip zs)))) Q E
section
variable {X : Cx} {CX : CXT} {k : Nat} {f C : Addr} {ks : List Str} {sp : Sp} {E : XK} {m : Str} {o : Expr} {kws : List Keyword} {ta : TE} {tk : TA} {p pos apos : Pos} {pl : Sem Bool}
theorem pe_methKw (c : Cls X.K C) (km : Meth X.K C m f) (F : FnKw X.prog X.w X.K X.mg X.base CX k f ks sp) (hr : Room k X.A) (kp : PySem.W.keepIn X.K (.ref f) = true) (hx : Passes CX X E) (ho : PE X o ta) (hkw : PK X kws tk)
    (hall : (backToKw pos (keywordEach kws X.env)).all (·.1.isSome) = true := by rfl) (hks : (backToKw pos (keywordEach kws X.env)).filterMap (·.1) = ks := by rfl)
    (hpl : ((backTo pos (starEach [] X.env)).any (·.1) || (backToKw pos (keywordEach kws X.env)).any (·.1.isNone)) = false := by rfl)
    (he : eval (.Call (.Attribute o m apos) [] kws pos) X.env = (do
      let ov ← eval o X.env
      standAt apos.atName
      let (f, first) ← holding [ov] (getMethod ov m pl)
      callWith pos f first (backTo pos (starEach [] X.env)) (backToKw pos (keywordEach kws X.env))) := by rfl) :
    PE X (.Call (.Attribute o m apos) [] kws pos) (tMethKw C m ks sp E ta tk) := by
  refine ⟨fun pins s σ H Q I h => ?_⟩
  refine PySem.W.methodCall_KW (thn (ho.run pins s σ H _ I h) fun u s1 ⟨x, H1, I1, rx, a, dx, fs, ex, hi, hl, q⟩ => ?_) he
  subst ex
  obtain rfl : u = Value.ref a := rx
  refine getmeth_ok I1 hi c km hl ?_
  refine PySem.W.callWith_KW0 (h₀ := X.base) I1.ok.mod.kin kp hall (thn (hkw.run pos pins s1 σ H1 _ I1 q) fun ws s2 ⟨zs, H2, I2, rz, l2, q2⟩ => ⟨I2.kIn, ?_⟩) hpl
  rw [hks]
  refine wpAny_call (codeAny_mono (F X.A X.stack s2 H2 (.ref a) (.ref a) ws zs Q E hr I2.env0 rfl rz l2 q2) fun r s' hq => ?_)
  cases r with
  | error er => exact hx pins σ H2 s2 er s' I2 hq
  | ok fl =>
    cases fl with
    | ret u => exact I2.after hq
    | next => exact False.elim hq
    | brk => exact False.elim hq
    | cont => exact False.elim hq
end
end Own

namespace Own
open PySem L2
abbrev sBag : Stmt := topT 31
abbrev sDraw : Stmt := topT 32
abbrev sOf : Stmt := topT 33
abbrev sSame : Stmt := topT 34
/-! what stood stands, but at p -/
def But (p : Addr) (H H' : Hp) : Prop := ∀ b o, b ≠ p → H b = some o → H' b = some o
theorem But.refl (p : Addr) (H : Hp) : But p H H := fun _ _ _ e => e
theorem But.trans {p : Addr} {H H1 H2 : Hp} (a : But p H H1) (b : But p H1 H2) : But p H H2 := fun c o n e => b c o n (a c o n e)
theorem But.of {p : Addr} {H H' : Hp} (a : Same H H') : But p H H' := fun c o _ e => a c o e
theorem But.upd {p : Addr} {H H' : Hp} {o : HO} (a : But p H H') : But p H (upd H' p o) := fun c u n e => by
  rw [upd_ne n]; exact a c u n e
theorem _root_.L2.Same.new {H H' : Hp} {p : Addr} {o : HO} (a : Same H H') (h : H' p = none) : Same H (upd H' p o) := fun c u e => by
  rw [upd_ne (ne_of_none (a c u e) h)]; exact a c u e
theorem _root_.L2.Same.own {H H' : Hp} {p : Addr} {o : HO} (a : Same H H') (h : H p = none) : Same H (upd H' p o) := fun c u e => by
  rw [upd_ne (ne_of_none e h)]; exact a c u e
/-- a bag of draws stands at p, its cells at c -/
def BagC (H : Hp) (p c : Addr) : Prop := ∃ (cs : List Int) (i d m : Int), H p = some (.lst [.ref c, .int i, .int d, .int m]) ∧ H c = some (.lst (cs.map V.int)) ∧ 0 ≤ i ∧ cs.length ≤ 63
def Bag (H : Hp) (p : Addr) : Prop := ∃ c, BagC H p c
theorem BagC.keep {H H' : Hp} {p c : Addr} (b : BagC H p c) (hp : ∀ o, H p = some o → H' p = some o) (hc : ∀ o, H c = some o → H' c = some o) : BagC H' p c := by
  obtain ⟨cs, i, d, m, h1, h2, h3⟩ := b
  exact ⟨cs, i, d, m, hp _ h1, hc _ h2, h3⟩
theorem BagC.same {H H' : Hp} {p c : Addr} (b : BagC H p c) (e : Same H H') : BagC H' p c := b.keep (e p) (e c)
theorem BagC.new {H : Hp} {p c l : Addr} {o : HO} (b : BagC H p c) (h : H l = none) : BagC (upd H l o) p c := b.same ((Same.refl _).new h)
theorem BagC.upd {H : Hp} {p c l : Addr} {o : HO} (b : BagC H p c) (h1 : l ≠ p) (h2 : l ≠ c) : BagC (upd H l o) p c := b.keep (fun _ e => by rw [upd_ne (Ne.symm h1)]; exact e) fun _ e => by rw [upd_ne (Ne.symm h2)]; exact e
theorem BagC.ne {H : Hp} {p c l : Addr} (b : BagC H p c) (h : H l = none) : l ≠ p ∧ l ≠ c := by
  obtain ⟨cs, i, d, m, h1, h2, _⟩ := b
  exact ⟨Ne.symm (ne_of_none h1 h), Ne.symm (ne_of_none h2 h)⟩
def spBag (K : PySem.W.Frag) : Sp := fun vs H Q _ => ∃ (a : Addr) (ns : List Int), vs = [.ref a] ∧ SqL K H a (ns.map V.int) ∧ ns.length ≤ 63 ∧ ∀ H' p, Same H H' → H p = none → Bag H' p → Q (.ref p) H'
def spDraw : Sp := fun vs H Q _ => ∃ (p : Addr) (n : Int) (c : Addr), vs = [.ref p, .int n] ∧ BagC H p c ∧ 0 < n ∧ n.natAbs < 2 ^ 200 ∧ ∀ H' r, But p H H' → BagC H' p c → 0 ≤ r → r < n → Q (.int r) H'
def spOf (K : PySem.W.Frag) : Sp := fun vs H Q _ => ∃ (p l : Addr) (xs : List V) (c : Addr), vs = [.ref p, .ref l] ∧ BagC H p c ∧ SqL K H l xs ∧ l ≠ p ∧ xs ≠ [] ∧ xs.length ≤ 1000 ∧ ∀ H' x, But p H H' → BagC H' p c → x ∈ xs → Q x H'
theorem ints_get {ns : List Int} {i : Nat} {y : V} (hi : (ns.map V.int)[i]? = some y) : ∃ u, ns[i]? = some u ∧ y = V.int u := by
  rw [List.getElem?_map] at hi
  cases e : ns[i]? with
  | none => rw [e] at hi; cases hi
  | some u => rw [e] at hi; exact ⟨u, rfl, (Option.some.inj hi).symm⟩
theorem cut_ints (ns : List Int) (lo hi : Option Int) (h : ns.length ≤ 63) : ∃ cs : List Int, cutV (ns.map V.int) lo hi = cs.map V.int ∧ cs.length ≤ 63 := by
  unfold cutV
  rw [← List.map_drop, ← List.map_take]
  refine ⟨_, rfl, ?_⟩
  rw [List.length_take, List.length_drop]
  omega
section
variable {P : Program} {w : World} {K : PySem.W.Frag} {mg : Str → Option Value} {base : Heap}
theorem scBag : FnScope ["_law_script", "_law_cells", "_law_mark", "_law_cell"] ["_law_script"] (defScope sBag) := ⟨rfl, rfl, rfl, by decide +kernel, rfl, by decide +kernel, by decide +kernel⟩
theorem ok_bag {f : Addr} {fd : FuncData} (F : Fun K "_law_bag" "_law_bag" sBag f fd) (tLen : mg "len" = none) (tInt : mg "int" = none) : FnOk P w K mg base CX0 1 f fd ["_law_script"] (spBag K) := by
  refine F.ok scBag (fun vs H Q E h => ?_) (fun cdv A outer s H vs Q E hr h => ?_)
  · obtain ⟨a, ns, rfl, _⟩ := h
    rfl
  · obtain ⟨a, ns, rfl, hS, hlen, k⟩ := h
    refine ⟨_, pss_cons (ps_setLc (i := 1) (own := [("_law_cell", 3)]) (g := gName 3) (tt := tYes) rfl scBag.nd rfl rfl (sw_true rfl rfl rfl (by decide +kernel)) (pi_list (pe_slice sl_list (pv 0) po_none (po_some pe_int))) (blkOk_by (N := ["_law_script", "_law_cells", "_law_mark", "_law_cell"]) (sc := defScope sBag) (by decide +kernel)) (fun _ _ _ _ _ => pg_name (i := 3) scBag.nd rfl (Or.inl rfl)) (fun _ _ _ _ _ => pts_nil) (fun _ _ _ _ _ => pe_callTy call_int1 (by rfl) tInt (by decide +kernel) (pa_cons (pv 3) pa_nil)))
      (pss_cons (ps_set (i := 2) scBag.nd rfl (Or.inl rfl) (pe_op op_add pe_int (pe_op op_mul pe_int (pe_callB call_len_seq (by rfl) tLen PySem.boot_len (pa_cons (pv 1) pa_nil)))))
      (pss_cons (ps_for PassesOwn.never rfl (pi_list (pv 1)) (pg_name (i := 3) scBag.nd rfl (Or.inl rfl))
        (pss_one (ps_set (i := 2) scBag.nd rfl (Or.inl rfl) (pe_op op_mod (pe_callTy call_int1 (by rfl) tInt (by decide +kernel) (pa_cons (pe_op op_add (pe_op op_mul (pv 2) pe_int) (pv 3)) pa_nil)) pe_int))))
      (pss_one (ps_ret (pe_lst (pa_cons (pv 1) (pa_cons pe_int (pa_cons pe_int (pa_cons (pv 2) pa_nil))))))))), ?_⟩
    refine ⟨_, rfl, 63, rfl, a, _, rfl, hS, fun p hp => ?_⟩
    obtain ⟨cs, ecs, hcs⟩ := cut_ints ns none (some 63) hlen
    rw [ecs]
    have s1 : Same H (upd H p (.lst (cs.map V.int))) := (Same.refl H).new hp
    refine ⟨_, rfl, ⟨_, SqL.of upd_same⟩, fun D hD => lc_list (K := K) (a := p) (xs := cs.map V.int) (fun i H' => Same (upd H p (.lst (cs.map V.int))) H' ∧ H' D = some (.lst ((cs.map V.int).take i))) ⟨(Same.refl _).new hD, upd_same⟩ (fun i H' _ q => .inl (.inl (q.1 _ _ upd_same))) ?_ ?_⟩
    · intro i y H' hi q
      obtain ⟨u, hu, rfl⟩ := ints_get hi
      have hl : i < 63 := by
        have := (List.getElem?_eq_some_iff.mp hu).1
        omega
      refine ⟨rfl, ⟨_, rfl, .inl ⟨_, rfl, _, q.2, ?_, q.1.own hD, ?_⟩⟩⟩
      · rw [List.length_take]
        exact Nat.lt_of_le_of_lt (Nat.min_le_left _ _) (Nat.lt_trans hl (by decide))
      · rw [upd_same, List.take_add_one, hi]
        rfl
    · intro H1 q
      obtain ⟨q1, q2⟩ := q
      rw [List.take_length] at q2
      have s2 : Same H H1 := s1.trans q1
      have nD : H D = none := s1.free hD
      refine ⟨_, rfl, D, _, rfl, .inl (SqL.of q2), _, _, rfl, rfl, .inl ⟨by decide, by decide⟩, _, _, rfl, rfl, ?_⟩
      refine ⟨_, rfl, D, rfl, ⟨_, SqL.of q2⟩, for_list (K := K) (a := D) (xs := cs.map V.int) (fun i σ H' => ∃ (m : Int) (v : Option V), σ = [some (.ref a), some (.ref D), some (.int m), v] ∧ H' = H1) ⟨_, _, rfl, rfl⟩ ?_ ?_ ?_⟩
      · rintro i σ H' _ ⟨m, v, rfl, rfl⟩
        exact SqL.of q2
      · rintro i y σ H' hi ⟨m, v, rfl, rfl⟩
        obtain ⟨u, hu, rfl⟩ := ints_get hi
        exact ⟨_, rfl, _, _, rfl, rfl, .inr ⟨by decide, by decide⟩, _, rfl, _, _, rfl, rfl, .inl ⟨_, rfl, _, _, rfl, rfl, by show (0 : Int) < 2147483477; decide, _, _, rfl, rfl⟩⟩
      · rintro σ H' ⟨m, v, rfl, rfl⟩
        refine ⟨_, rfl, _, rfl, by show 4 ≤ sizeLine; decide, fun l hl => ?_⟩
        have nDl : D ≠ l := ne_of_none q2 hl
        exact k _ l (s2.new hl) (s2.free hl) ⟨D, cs, 0, 0, m, upd_same, by rw [upd_ne nDl]; exact q2, by decide, hcs⟩
theorem scDraw : FnScope ["_law_bag_here", "_law_many", "_law_cell", "_law_first", "_law_second", "_law_digit"] ["_law_bag_here", "_law_many"] (defScope sDraw) := ⟨rfl, rfl, rfl, by decide +kernel, rfl, by decide +kernel, by decide +kernel⟩
theorem atI_nat' {xs : List V} {i : Int} {j : Nat} {v : V} (e : i = (j : Int)) (h : xs[j]? = some v) : atI xs i = some v := at_of e h
theorem ok_draw {f : Addr} {fd : FuncData} (F : Fun K "_law_draw" "_law_draw" sDraw f fd) (tLen : mg "len" = none) (tInt : mg "int" = none) : FnOk P w K mg base CX0 1 f fd ["_law_bag_here", "_law_many"] spDraw := by
  refine F.ok scDraw (fun vs H Q E h => ?_) (fun cdv A outer s H vs Q E hr h => ?_)
  · obtain ⟨p, n, c, rfl, _⟩ := h
    rfl
  · obtain ⟨p, n, c, rfl, ⟨cs, i, d, m, hp, hc, hi, hcs⟩, hn, hn2, k⟩ := h
    have nd := scDraw.nd
    refine ⟨_, Evl.pss_cut (ps_if (pt_cmpR op_lt (pe_ix ix_list (pv 0) pe_int (fun _ _ => rfl)) pe_int (nomark _))
        (pss_cons (ps_asg (pe_op op_add (pe_ix ix_list (pv 0) pe_int (fun _ _ => rfl)) pe_int) (pg_sub (pv 0) pe_int set_list))
        (pss_cons (ps_set (i := 2) nd rfl (Or.inl rfl) (pe_op op_add (pe_ix ix_list (pv 0) pe_int (fun _ _ => rfl)) (pe_op op_mul (pe_ix ix_list (pv 0) pe_int (fun _ _ => rfl)) pe_int)))
        (Evl.pss_cut (ps_if (pt_cmpR op_le (pe_ix ix_list (pv 0) pe_int (fun _ _ => rfl)) (pe_callB call_len_seq (by rfl) tLen PySem.boot_len (pa_cons (pe_ix ix_list (pv 0) pe_int (fun _ _ => rfl)) pa_nil)) (nomark _))
          (pss_one (ps_set (i := 2) nd rfl (Or.inl rfl) (pe_ix ix_list (pe_ix ix_list (pv 0) pe_int (fun _ _ => rfl)) (pe_op op_sub (pe_ix ix_list (pv 0) pe_int (fun _ _ => rfl)) pe_int) (fun _ _ => rfl)))) pss_nil)
        (pss_cons (ps_if (PW.pt (pw_or (pt_cmpR op_gt (pe_ix ix_list (pv 0) pe_int (fun _ _ => rfl)) (pe_callB call_len_seq (by rfl) tLen PySem.boot_len (pa_cons (pe_ix ix_list (pv 0) pe_int (fun _ _ => rfl)) pa_nil)) (nomark _)) (pw_or1 (pt_cmpR op_lt (pv 2) (pe_op op_pow pe_int pe_int) (nomark _)))))
          (pss_cons (ps_set (i := 3) nd rfl (Or.inl rfl) (pe_op op_mod (pe_callTy call_int1 (by rfl) tInt (by decide +kernel) (pa_cons (pe_op op_add (pe_op op_add (pe_op op_mul (pv 2) pe_int) (pe_op op_mul (pe_ix ix_list (pv 0) pe_int (fun _ _ => rfl)) pe_int)) (pe_ix ix_list (pv 0) pe_int (fun _ _ => rfl))) pa_nil)) pe_int))
          (pss_cons (ps_set (i := 4) nd rfl (Or.inl rfl) (pe_op op_mod (pe_callTy call_int1 (by rfl) tInt (by decide +kernel) (pa_cons (pe_op op_add (pe_op op_mul (pv 3) (pv 3)) (pe_op op_mul (pe_ix ix_list (pv 0) pe_int (fun _ _ => rfl)) pe_int)) pa_nil)) pe_int))
          (pss_one (ps_ret (pe_op op_mod (pe_op op_fdiv (pe_op op_mod (pe_callTy call_int1 (by rfl) tInt (by decide +kernel) (pa_cons (pe_op op_add (pe_op op_mul (pv 4) pe_int) (pv 3)) pa_nil)) pe_int) pe_int) (pv 1)))))) pss_nil)
        (pss_one (ps_asg (pv 2) (pg_sub (pv 0) pe_int set_list))))))) pss_nil)
      (pss_cons (ps_set (i := 5) nd rfl (Or.inl rfl) (pe_op op_mod (pe_callTy call_int1 (by rfl) tInt (by decide +kernel) (pa_cons (pe_ix ix_list (pv 0) pe_int (fun _ _ => rfl)) pa_nil)) (pv 1)))
      (pss_cons (ps_asg (pe_op op_fdivW (pe_callTy call_int1 (by rfl) tInt (by decide +kernel) (pa_cons (pe_ix ix_list (pv 0) pe_int (fun _ _ => rfl)) pa_nil)) (pv 1)) (pg_sub (pv 0) pe_int set_list))
      (pss_one (ps_ret (pv 5))))), ?_⟩
    have ncp : c ≠ p := ne_of hc hp (fun z => by cases cs with | nil => cases z | cons x xs => cases z)
    have e18 : (10 : Int) ^ (18 : Int).toNat = 1000000000000000000 := by decide
    refine ⟨fun σ' H' => ∃ (x y z : Option V) (i' d' : Int), σ' = [some (.ref p), some (.int n), x, y, z, none] ∧ But p H H' ∧ H' p = some (.lst [.ref c, .int i', .int d', .int m]) ∧ 0 ≤ i', ?_, ?_⟩
    · refine ⟨_, rfl, p, _, _, _, rfl, rfl, SqL.of hp, rfl, _, _, rfl, rfl, _, rfl, ite2 (fun _ => ?_) (fun _ => ?_)⟩
      · refine ⟨_, rfl, p, _, _, _, rfl, rfl, SqL.of hp, rfl, _, _, rfl, rfl, _, rfl, p, _, _, 1, rfl, rfl, hp, rfl, ?_⟩
        have b1 : But p H (upd H p (.lst [.ref c, .int (i + 1), .int d, .int m])) := (But.refl p H).upd
        generalize hH : upd H p (.lst [.ref c, .int (i + 1), .int d, .int m]) = H1 at b1
        have hp1 : H1 p = some (.lst [.ref c, .int (i + 1), .int d, .int m]) := by rw [← hH]; exact upd_same
        have hc1 : H1 c = some (.lst (cs.map V.int)) := b1 c _ ncp hc
        show tSeq _ _ _ _ (upd H p (.lst [.ref c, .int (i + 1), .int d, .int m]))
        rw [hH]
        refine ⟨_, rfl, p, _, _, _, rfl, rfl, SqL.of hp1, rfl, _, rfl, p, _, _, _, rfl, rfl, SqL.of hp1, rfl, _, _, rfl, rfl, .inr ⟨by decide, by decide⟩, _, _, rfl, rfl, ?_⟩
        refine ⟨fun σ' H' => ∃ (x : Int), σ' = [some (.ref p), some (.int n), some (.int x), none, none, none] ∧ H' = H1, ?_, ?_⟩
        · refine ⟨_, rfl, p, _, _, _, rfl, rfl, SqL.of hp1, rfl, _, rfl, p, _, _, _, rfl, rfl, SqL.of hp1, rfl, c, _, rfl, .inl (SqL.of hc1), _, _, rfl, rfl, _, rfl, ite2 (fun hle => ?_) (fun _ => ⟨_, rfl, rfl⟩)⟩
          have hle := of_decide_eq_true hle
          rw [List.length_map] at hle
          have hlt : i.toNat < cs.length := by omega
          refine ⟨_, rfl, p, _, _, _, rfl, rfl, SqL.of hp1, rfl, _, rfl, p, _, _, _, rfl, rfl, SqL.of hp1, rfl, _, _, rfl, rfl, c, _, _, .int cs[i.toNat], rfl, rfl, SqL.of hc1, atI_nat' (j := i.toNat) (by omega) (by rw [List.getElem?_map, List.getElem?_eq_getElem hlt]; rfl), ?_⟩
          exact ⟨_, rfl, rfl⟩
        · rintro σ' H' ⟨x, rfl, rfl⟩
          refine ⟨_, rfl, p, _, _, _, rfl, rfl, SqL.of hp1, rfl, _, rfl, p, _, _, _, rfl, rfl, SqL.of hp1, rfl, c, _, rfl, .inl (SqL.of hc1), _, _, rfl, rfl, _, rfl, ite2 (fun _ => iteT ?_) (fun _ => ⟨_, rfl, _, _, rfl, rfl, ⟨by decide, by decide, by decide⟩, _, _, rfl, rfl, _, rfl, ite2 (fun _ => ?_) (fun _ => ?_)⟩)⟩
          iterate 2
            refine ⟨_, rfl, _, _, rfl, rfl, .inr ⟨by decide, by decide⟩, _, rfl, p, _, _, _, rfl, rfl, SqL.of hp1, rfl, _, _, rfl, rfl, .inr ⟨by decide, by decide⟩, _, _, rfl, rfl, _, rfl, p, _, _, _, rfl, rfl, SqL.of hp1, rfl, _, _, rfl, rfl, .inl ⟨_, rfl, _, _, rfl, rfl, by show (0 : Int) < 2147483629; decide, ?_⟩⟩
            generalize x * 42061 + (i + 1) * 37021 + m = y
            have y0 := Int.emod_nonneg y (show (2147483629 : Int) ≠ 0 by decide)
            have y1 := Int.emod_lt_of_pos y (show (0 : Int) < 2147483629 by decide)
            refine ⟨_, rfl, _, rfl, _, _, rfl, rfl, .inl ⟨by omega, by omega⟩, _, rfl, p, _, _, _, rfl, rfl, SqL.of hp1, rfl, _, _, rfl, rfl, .inr ⟨by decide, by decide⟩, _, _, rfl, rfl, .inl ⟨_, rfl, _, _, rfl, rfl, by show (0 : Int) < 998244353; decide, ?_⟩⟩
            refine ⟨_, rfl, _, _, rfl, rfl, .inr ⟨by decide, by decide⟩, _, rfl, _, _, rfl, rfl, .inl ⟨_, rfl, _, _, rfl, rfl, by show (0 : Int) < 2147483587; decide, _, _, rfl, rfl, ⟨by decide, by decide⟩, _, rfl, _, _, rfl, rfl, hn, ?_⟩⟩
            exact k _ _ b1 ⟨cs, _, _, _, hp1, hc1, by omega, hcs⟩ (Int.emod_nonneg _ (by omega)) (Int.emod_lt_of_pos _ hn)
          exact ⟨_, rfl, _, rfl, p, _, _, 2, rfl, rfl, hp1, rfl, _, _, _, i + 1, x, rfl, b1.upd, upd_same, by omega⟩
      · exact ⟨none, none, none, i, d, rfl, But.refl p H, hp, hi⟩
    · rintro σ' H' ⟨x, y, z, i', d', rfl, b1, hp1, hi1⟩
      refine ⟨_, rfl, p, _, _, _, rfl, rfl, SqL.of hp1, rfl, .inl ⟨_, rfl, _, rfl, _, _, rfl, rfl, hn, ?_⟩⟩
      refine ⟨_, rfl, p, _, _, _, rfl, rfl, SqL.of hp1, rfl, .inl ⟨_, rfl, _, rfl, _, _, rfl, rfl, wide_div hn hn2 (by decide) (by decide), _, rfl, p, _, _, 2, rfl, rfl, hp1, rfl, ?_⟩⟩
      exact ⟨_, rfl, k _ _ b1.upd ⟨cs, i', _, m, upd_same, by rw [upd_ne ncp]; exact b1 c _ ncp hc, hi1, hcs⟩ (Int.emod_nonneg _ (by omega)) (Int.emod_lt_of_pos _ hn)⟩
theorem but_seq {K : PySem.W.Frag} {H H' : Hp} {p a : Addr} {xs : List V} (e : But p H H') (n : a ≠ p) (h : SqL K H a xs) : SqL K H' a xs := by
  rcases h with (h | ⟨o, h⟩) | h
  · exact .inl (.inl (e _ _ n h))
  · exact .inl (.inr ⟨o, e _ _ n h⟩)
  · exact .inr h
theorem scOf : FnScope ["_law_bag_here", "_law_some"] ["_law_bag_here", "_law_some"] (defScope sOf) := ⟨rfl, rfl, rfl, by decide +kernel, rfl, by decide +kernel, by decide +kernel⟩
theorem ok_of {f fD : Addr} {fd fdD : FuncData} (F : Fun K "_law_of" "_law_of" sOf f fd) (G : FnOk P w K mg base CX0 1 fD fdD ["_law_bag_here", "_law_many"] spDraw) (mD : mg "_law_draw" = some (.ref fD)) (kD : PySem.W.keepIn K (.ref fD) = true) (bD : Binds K fdD ["_law_bag_here", "_law_many"] []) (tLen : mg "len" = none) : FnOk P w K mg base CX0 2 f fd ["_law_bag_here", "_law_some"] (spOf K) := by
  refine F.ok scOf (fun vs H Q E h => ?_) (fun cdv A outer s H vs Q E hr h => ?_)
  · obtain ⟨p, l, xs, c, rfl, _⟩ := h
    rfl
  · obtain ⟨p, l, xs, c, rfl, hb, hl, nlp, hx, hz, k⟩ := h
    refine ⟨_, pss_one (ps_ret (pe_ix ix_list (pv 1) (pe_call G hr rfl mD kD bD .nil pass0 (pa_cons (pv 0) (pa_cons (pe_callB call_len_seq (by rfl) tLen PySem.boot_len (pa_cons (pv 1) pa_nil)) pa_nil))) (fun _ _ => rfl))), ?_⟩
    have h0 : 0 < xs.length := List.length_pos_iff.mpr hx
    refine ⟨_, rfl, _, rfl, _, rfl, l, _, rfl, .inl hl, p, _, c, rfl, hb, by omega, ?_, fun H' r b1 b2 r0 r1 => ?_⟩
    · have : (2:Nat) ^ 200 > 1000 := by decide
      omega
    · have hr : r.toNat < xs.length := by omega
      exact ⟨l, xs, r, xs[r.toNat], rfl, rfl, but_seq b1 nlp hl, at_of (j := r.toNat) (by omega) (List.getElem?_eq_getElem hr), k _ _ b1 b2 (List.getElem_mem hr)⟩
/-! comprehensions over what is walked in a known number of turns -/
theorem lc_any {J : It} {n : Nat} {g : TG} {tt : TT} {te : TE} {vs : List Nat} {σ : L2.St} {H1 : Hp} {D : Addr} {Qd : Hp → Prop} (Pv : Nat → Hp → Prop) (h0 : Pv 0 (upd H1 D (.lst [])))
    (hs : ∀ i H, i < n → Pv i H → J.go i H ∧ ∀ x H', J.yld i H x H' → g x (wipe σ vs) H' fun σ2 H2 => wipe σ2 vs = wipe σ vs ∧ tt σ2 H2 fun b H3 => if b = true then te σ2 H3 fun y H4 => ∃ acc, H4 D = some (.lst acc) ∧ acc.length < sizeLine ∧ Pv (i + 1) (upd H4 D (.lst (acc ++ [y]))) else Pv (i + 1) H3)
    (hd : ∀ H, Pv n H → J.stop n H ∧ Qd H) : ∃ W : Nat → Nat → Hp → Prop, (∃ m, W 0 m (upd H1 D (.lst []))) ∧ ∀ i m H, W i m H → (J.stop i H ∧ Qd H) ∨ (J.go i H ∧ ∃ Nx : Hp → Prop, (∀ H', Nx H' → ∃ m', m' < m ∧ W (i + 1) m' H') ∧ ∀ x H', J.yld i H x H' → g x (wipe σ vs) H' fun σ2 H2 => wipe σ2 vs = wipe σ vs ∧ tt σ2 H2 fun b H3 =>
      if b = true then te σ2 H3 fun y H4 => ∃ acc, H4 D = some (.lst acc) ∧ acc.length < sizeLine ∧ Nx (upd H4 D (.lst (acc ++ [y]))) else Nx H3) := by
  refine ⟨fun i m H => m + i = n ∧ Pv i H, ⟨n, rfl, h0⟩, fun i m H ⟨e, p⟩ => ?_⟩
  rcases Nat.lt_or_ge i n with l | l
  · obtain ⟨q1, q2⟩ := hs i H l p
    exact .inr ⟨q1, Pv (i + 1), fun H' p' => ⟨n - (i + 1), by omega, by omega, p'⟩, q2⟩
  · obtain rfl : i = n := by omega
    exact .inl (hd H p)
theorem go_zipL {K : PySem.W.Frag} {a b : Addr} {xs ys : List V} {H : Hp} {i : Nat} (hl : xs.length = ys.length) (h : i < xs.length) (h1 : SqL K H a xs) (h2 : SqL K H b ys) : (Itz K a b).go i H ∧ ∀ v H', (Itz K a b).yld i H v H' → ∃ T x y, v = .ref T ∧ H T = none ∧ H' = upd H T (.tup [x, y]) ∧ xs[i]? = some x ∧ ys[i]? = some y :=
  ⟨⟨xs, ys, _, _, h1, h2, List.getElem?_eq_getElem h, List.getElem?_eq_getElem (hl ▸ h)⟩, fun v H' ⟨T, x, y, e1, hT, e2, f1, f2⟩ => ⟨T, x, y, e1, hT, e2, f1 _ h1, f2 _ h2⟩⟩
theorem go_zipT {K : PySem.W.Frag} {a b : Addr} {xs ys : List V} {H : Hp} {i : Nat} (hl : xs.length = ys.length) (h : i < xs.length) (h1 : SqT K H a xs) (h2 : SqT K H b ys) : (RZ.ItzT K a b).go i H ∧ ∀ v H', (RZ.ItzT K a b).yld i H v H' → ∃ T x y, v = .ref T ∧ H T = none ∧ H' = upd H T (.tup [x, y]) ∧ xs[i]? = some x ∧ ys[i]? = some y :=
  ⟨⟨xs, ys, _, _, h1, h2, List.getElem?_eq_getElem h, List.getElem?_eq_getElem (hl ▸ h)⟩, fun v H' ⟨T, x, y, e1, hT, e2, f1, f2⟩ => ⟨T, x, y, e1, hT, e2, f1 _ h1, f2 _ h2⟩⟩
/-! data, by depth -/
inductive Shal : Nat → PyData → Prop where
  | non {n} : Shal n .none
  | bl {n} (b : Bool) : Shal n (.bool b)
  | int {n} (i : Int) : Shal n (.int i)
  | str {n} (z : Str) : Shal n (.str z)
  | lst {n} {ds : List PyData} (h : ∀ d, d ∈ ds → Shal n d) (l : ds.length ≤ 1000) : Shal (n + 1) (.list ds)
  | tup {n} {ds : List PyData} (h : ∀ d, d ∈ ds → Shal n d) (l : ds.length ≤ 1000) : Shal (n + 1) (.tuple ds)
theorem same_t {K : PySem.W.Frag} {H H' : Hp} {a : Addr} {xs : List V} (e : Same H H') (h : SqT K H a xs) : SqT K H' a xs := by
  rcases h with (h | ⟨o, h⟩) | h
  · exact .inl (.inl (e _ _ h))
  · exact .inl (.inr ⟨o, e _ _ h⟩)
  · exact .inr h
mutual
theorem dp_same {K : PySem.W.Frag} {H H' : Hp} (e : Same H H') : ∀ (d : PyData) (v : V), Dp K H v d → Dp K H' v d
  | .none, v, h => by cases h; exact .non
  | .bool b, v, h => by cases h; exact .bl b
  | .int i, v, h => by cases h; exact .int i
  | .str z, v, h => by cases h; exact .str z
  | .list ds, v, h => by
    cases h with
    | lst h1 h2 => exact .lst (e.seq h1) (dpAll_same e ds _ h2)
  | .tuple ds, v, h => by
    cases h with
    | tup h1 h2 => exact .tup (same_t e h1) (dpAll_same e ds _ h2)
  | .dict kvs, v, h => by cases h
theorem dpAll_same {K : PySem.W.Frag} {H H' : Hp} (e : Same H H') : ∀ (ds : List PyData) (vs : List V), DpAll K H vs ds → DpAll K H' vs ds
  | [], vs, h => by cases h; exact .nil
  | d :: ds, vs, h => by
    cases h with
    | cons h1 h2 => exact .cons (dp_same e d _ h1) (dpAll_same e ds _ h2)
end
theorem dpAll_len {K : PySem.W.Frag} {H : Hp} : ∀ (ds : List PyData) (vs : List V), DpAll K H vs ds → vs.length = ds.length
  | [], vs, h => by cases h; rfl
  | d :: ds, vs, h => by
    cases h with
    | cons h1 h2 => rw [List.length_cons, List.length_cons, dpAll_len ds _ h2]
theorem dpAll_get {K : PySem.W.Frag} {H : Hp} : ∀ (ds : List PyData) (vs : List V) (i : Nat) (v : V), DpAll K H vs ds → vs[i]? = some v → ∃ d, ds[i]? = some d ∧ Dp K H v d
  | [], vs, i, v, h, e => by cases h; cases e
  | d :: ds, vs, 0, v, h, e => by
    cases h with
    | cons h1 h2 => cases e; exact ⟨d, rfl, h1⟩
  | d :: ds, vs, i + 1, v, h, e => by
    cases h with
    | cons h1 h2 => exact dpAll_get ds _ i v h2 e
theorem sqL_ty {K : PySem.W.Frag} {H : Hp} {a : Addr} {xs : List V} (h : SqL K H a xs) : TyX K H (.ref a) (.type "list") := by
  rcases h with (h | ⟨o, h⟩) | ⟨o, its, n, h, hc, _⟩
  · exact .base (.lst h)
  · exact .base (.frz h)
  · exact .kList h hc
theorem sqT_ty {K : PySem.W.Frag} {H : Hp} {a : Addr} {xs : List V} (h : SqT K H a xs) : TyX K H (.ref a) (.type "tuple") := by
  rcases h with (h | ⟨o, h⟩) | ⟨o, its, n, h, hc, _⟩
  · exact .base (.tup h)
  · exact .fTuple h
  · exact .kTuple h hc
def spSame (K : PySem.W.Frag) (n : Nat) : Sp := fun vs H Q _ => ∃ (x y : V) (d : PyData) (m : Nat), vs = [x, y] ∧ Dp K H x d ∧ Dp K H y d ∧ n = m + 1 ∧ Shal m d ∧ ∀ H', Same H H' → Q (.bl true) H'
/-- what the laws ask of the built-in names -/
structure Blt (mg : Str → Option Value) : Prop where
  len : mg "len" = none
  int : mg "int" = none
  isi : mg "isinstance" = none
  bool : mg "bool" = none
  str : mg "str" = none
  list : mg "list" = none
  tuple : mg "tuple" = none
  all : mg "all" = none
  zip : mg "zip" = none
theorem scSame : FnScope ["_law_found", "_law_due", "_law_one", "_law_two"] ["_law_found", "_law_due"] (defScope sSame) := ⟨rfl, rfl, rfl, by decide +kernel, rfl, by decide +kernel, by decide +kernel⟩
theorem ok_same_step {n : Nat} {f : Addr} {fd : FuncData} (F : Fun K "_law_same" "_law_same" sSame f fd) (G : FnOk P w K mg base CX0 n f fd ["_law_found", "_law_due"] (spSame K n)) (mS : mg "_law_same" = some (.ref f)) (bS : Binds K fd ["_law_found", "_law_due"] []) (B : Blt mg) :
    FnOk P w K mg base CX0 (n + 1) f fd ["_law_found", "_law_due"] (spSame K (n + 1)) := by
  refine F.ok scSame (fun vs H Q E h => ?_) (fun cdv A outer s H vs Q E hr h => ?_)
  · obtain ⟨x, y, d, m, rfl, _⟩ := h
    rfl
  · obtain ⟨x, y, d, m, rfl, hx, hy, hnm, hs, k⟩ := h
    obtain rfl : n = m := Nat.succ.inj hnm
    refine ⟨_, pss_cons (ps_if (pt_cmp (pc_isN (pv 1))) (pss_one (ps_ret (pe_cmp (pc_isN (pv 0)) rfl))) pss_nil)
      (pss_cons (ps_if (PW.pt (pw_or (pt_val (pe_callB call_isi (by rfl) B.isi (by decide +kernel) (pa_cons (pv 1) (pa_cons (pe_bltn (v := .ty "bool") (by rfl) B.bool (by decide +kernel) rfl) pa_nil)))) (pw_or1 (pt_val (pe_callB call_isi (by rfl) B.isi (by decide +kernel) (pa_cons (pv 0) (pa_cons (pe_bltn (v := .ty "bool") (by rfl) B.bool (by decide +kernel) rfl) pa_nil)))))))
        (pss_one (ps_ret (pe_and (pe_callB call_isi (by rfl) B.isi (by decide +kernel) (pa_cons (pv 1) (pa_cons (pe_bltn (v := .ty "bool") (by rfl) B.bool (by decide +kernel) rfl) pa_nil))) (pe_and (pe_callB call_isi (by rfl) B.isi (by decide +kernel) (pa_cons (pv 0) (pa_cons (pe_bltn (v := .ty "bool") (by rfl) B.bool (by decide +kernel) rfl) pa_nil))) (pe_one (pe_cmpR op_eq (pv 0) (pv 1) (nomark _))))))) pss_nil)
      (pss_cons (ps_if (pt_val (pe_callB call_isiT (by rfl) B.isi (by decide +kernel) (pa_cons (pv 1) (pa_cons (pe_tup (pa_cons (pe_bltn (v := .ty "int") (by rfl) B.int (by decide +kernel) rfl) (pa_cons (pe_bltn (v := .ty "str") (by rfl) B.str (by decide +kernel) rfl) pa_nil))) pa_nil))))
        (pss_one (ps_ret (pe_and (pe_callB call_isiT (by rfl) B.isi (by decide +kernel) (pa_cons (pv 0) (pa_cons (pe_tup (pa_cons (pe_bltn (v := .ty "int") (by rfl) B.int (by decide +kernel) rfl) (pa_cons (pe_bltn (v := .ty "str") (by rfl) B.str (by decide +kernel) rfl) pa_nil))) pa_nil)))
          (pe_and (pe_cmpR op_eq (pe_callB call_isi (by rfl) B.isi (by decide +kernel) (pa_cons (pv 0) (pa_cons (pe_bltn (v := .ty "int") (by rfl) B.int (by decide +kernel) rfl) pa_nil))) (pe_callB call_isi (by rfl) B.isi (by decide +kernel) (pa_cons (pv 1) (pa_cons (pe_bltn (v := .ty "int") (by rfl) B.int (by decide +kernel) rfl) pa_nil))) (nomark _)) (pe_one (pe_cmpR op_eq (pv 0) (pv 1) (nomark _))))))) pss_nil)
      (pss_cons (ps_if (PW.pt (pw_or (pt_cmpR op_ne (pe_callB call_isi (by rfl) B.isi (by decide +kernel) (pa_cons (pv 1) (pa_cons (pe_bltn (v := .ty "list") (by rfl) B.list (by decide +kernel) rfl) pa_nil))) (pe_callB call_isi (by rfl) B.isi (by decide +kernel) (pa_cons (pv 0) (pa_cons (pe_bltn (v := .ty "list") (by rfl) B.list (by decide +kernel) rfl) pa_nil))) (nomark _)) (pw_or1 (pt_cmpR op_ne (pe_callB call_isi (by rfl) B.isi (by decide +kernel) (pa_cons (pv 1) (pa_cons (pe_bltn (v := .ty "tuple") (by rfl) B.tuple (by decide +kernel) rfl) pa_nil))) (pe_callB call_isi (by rfl) B.isi (by decide +kernel) (pa_cons (pv 0) (pa_cons (pe_bltn (v := .ty "tuple") (by rfl) B.tuple (by decide +kernel) rfl) pa_nil))) (nomark _)))))
        (pss_one (ps_ret pe_bl)) pss_nil)
      (pss_one (ps_ret (pe_and (pe_cmpR op_eq (pe_callB call_len_seq (by rfl) B.len PySem.boot_len (pa_cons (pv 0) pa_nil)) (pe_callB call_len_seq (by rfl) B.len PySem.boot_len (pa_cons (pv 1) pa_nil)) (nomark _))
        (pe_one (pe_callB (cr_all rfl) (by rfl) B.all (by decide +kernel) (pa_cons
          (pe_lc (own := [("_law_one", 2), ("_law_two", 3)]) (g := gTup K 2 (gCons (gName 2) (gCons (gName 3) gNil))) (tt := tYes) rfl scSame.nd (RZ.pi_zipA (by rfl) B.zip (pa_cons (pv 0) (pa_cons (pv 1) pa_nil))) (blkOk_by (N := ["_law_found", "_law_due", "_law_one", "_law_two"]) (sc := defScope sSame) (by decide +kernel))
            (fun _ _ _ _ _ => pg_tup rfl (pgs_cons (pg_name (i := 2) scSame.nd rfl (.inl rfl) (hf := Or.inr rfl)) (pgs_cons (pg_name (i := 3) scSame.nd rfl (.inl rfl) (hf := Or.inr rfl)) pgs_nil))) (fun _ _ _ _ _ => pts_nil) (fun _ _ _ _ _ => pe_call G (hr.mono (by omega)) rfl mS F.kp bS .nil pass0 (pa_cons (pv 2) (pa_cons (pv 3) pa_nil)))) pa_nil))))))))), ?_⟩
    cases hs with
    | non =>
      cases hx; cases hy
      exact ⟨_, rfl, true, rfl, iteT ⟨_, rfl, k _ (Same.refl _)⟩⟩
    | bl b =>
      cases hx; cases hy
      refine ⟨_, rfl, false, rfl, iteF ?_⟩
      refine ⟨_, rfl, _, _, .type "bool", .type "bool", true, rfl, .ty _, .base (.bl b), kit_ty (by decide +kernel), true, rfl, iteT (iteT ?_)⟩
      refine ⟨_, rfl, _, _, .type "bool", .type "bool", true, rfl, .ty _, .base (.bl b), kit_ty (by decide +kernel), true, rfl, iteT ?_⟩
      refine ⟨_, rfl, _, _, .type "bool", .type "bool", true, rfl, .ty _, .base (.bl b), kit_ty (by decide +kernel), true, rfl, iteT ?_⟩
      refine ⟨_, rfl, _, rfl, rfl, ?_⟩
      rw [decide_eq_true rfl]
      exact k _ (Same.refl _)
    | int i =>
      cases hx; cases hy
      refine ⟨_, rfl, false, rfl, iteF ?_⟩
      refine ⟨_, rfl, _, _, .type "int", .type "bool", false, rfl, .ty _, .base (.int i), kit_ty (by decide +kernel), false, rfl, iteF ?_⟩
      refine ⟨_, rfl, _, _, .type "int", .type "bool", false, rfl, .ty _, .base (.int i), kit_ty (by decide +kernel), false, rfl, iteF ?_⟩
      refine ⟨_, rfl, by show 2 ≤ sizeLine; decide, fun t ht => ⟨_, t, _, .type "int", [.type "int", .type "str"], true, rfl, upd_same, .cons (.ty _) (.cons (.ty _) .nil), .base (.int i), kitAny_cons (b := true) (kit_ty (by decide +kernel)) (fun z => nomatch z) (fun _ => rfl), true, rfl, iteT ?_⟩⟩
      refine ⟨_, rfl, by show 2 ≤ sizeLine; decide, fun u hu => ⟨_, u, _, .type "int", [.type "int", .type "str"], true, rfl, upd_same, .cons (.ty _) (.cons (.ty _) .nil), .base (.int i), kitAny_cons (b := true) (kit_ty (by decide +kernel)) (fun z => nomatch z) (fun _ => rfl), true, rfl, iteT ?_⟩⟩
      refine ⟨_, rfl, _, _, .type "int", .type "int", true, rfl, .ty _, .base (.int i), kit_ty (by decide +kernel), ?_⟩
      refine ⟨_, rfl, _, _, .type "int", .type "int", true, rfl, .ty _, .base (.int i), kit_ty (by decide +kernel), rfl, true, rfl, iteT ?_⟩
      refine ⟨_, rfl, _, rfl, rfl, ?_⟩
      rw [decide_eq_true rfl]
      exact k _ (((Same.refl _).new ht).new hu)
    | str z =>
      cases hx; cases hy
      refine ⟨_, rfl, false, rfl, iteF ?_⟩
      refine ⟨_, rfl, _, _, .type "str", .type "bool", false, rfl, .ty _, .base (.str z), kit_ty (by decide +kernel), false, rfl, iteF ?_⟩
      refine ⟨_, rfl, _, _, .type "str", .type "bool", false, rfl, .ty _, .base (.str z), kit_ty (by decide +kernel), false, rfl, iteF ?_⟩
      refine ⟨_, rfl, by show 2 ≤ sizeLine; decide, fun t ht => ⟨_, t, _, .type "str", [.type "int", .type "str"], true, rfl, upd_same, .cons (.ty _) (.cons (.ty _) .nil), .base (.str z), kitAny_cons (b := false) (kit_ty (by decide +kernel)) (fun _ => kitAny_cons (b := true) (kit_ty (by decide +kernel)) (fun z => nomatch z) (fun _ => rfl)) (fun z => nomatch z), true, rfl, iteT ?_⟩⟩
      refine ⟨_, rfl, by show 2 ≤ sizeLine; decide, fun u hu => ⟨_, u, _, .type "str", [.type "int", .type "str"], true, rfl, upd_same, .cons (.ty _) (.cons (.ty _) .nil), .base (.str z), kitAny_cons (b := false) (kit_ty (by decide +kernel)) (fun _ => kitAny_cons (b := true) (kit_ty (by decide +kernel)) (fun z => nomatch z) (fun _ => rfl)) (fun z => nomatch z), true, rfl, iteT ?_⟩⟩
      refine ⟨_, rfl, _, _, .type "str", .type "int", false, rfl, .ty _, .base (.str z), kit_ty (by decide +kernel), ?_⟩
      refine ⟨_, rfl, _, _, .type "str", .type "int", false, rfl, .ty _, .base (.str z), kit_ty (by decide +kernel), rfl, true, rfl, iteT ?_⟩
      refine ⟨_, rfl, _, rfl, rfl, ?_⟩
      rw [decide_eq_true rfl]
      exact k _ (((Same.refl _).new ht).new hu)
    | lst h l =>
      cases hx with
      | lst h1 h2 =>
      cases hy with
      | lst h3 h4 =>
      rename_i ds a xs b ys
      have ex := dpAll_len _ _ h2
      have ey := dpAll_len _ _ h4
      refine ⟨_, rfl, false, rfl, iteF ?_⟩
      refine ⟨_, rfl, _, _, .type "list", .type "bool", false, rfl, .ty _, sqL_ty h3, kit_ty (by decide +kernel), false, rfl, iteF ?_⟩
      refine ⟨_, rfl, _, _, .type "list", .type "bool", false, rfl, .ty _, sqL_ty h1, kit_ty (by decide +kernel), false, rfl, iteF ?_⟩
      refine ⟨_, rfl, by show 2 ≤ sizeLine; decide, fun t ht => ⟨_, t, _, .type "list", [.type "int", .type "str"], false, rfl, upd_same, .cons (.ty _) (.cons (.ty _) .nil), sqL_ty (((Same.refl _).new ht).seq h3), kitAny_cons (b := false) (kit_ty (by decide +kernel)) (fun _ => kitAny_cons (b := false) (kit_ty (by decide +kernel)) (fun _ => rfl) (fun z => nomatch z)) (fun z => nomatch z), false, rfl, iteF ?_⟩⟩
      have s1 : Same H (upd H t (.tup [.ty "int", .ty "str"])) := (Same.refl _).new ht
      have k : ∀ H', Same (upd H t (.tup [.ty "int", .ty "str"])) H' → Q (.bl true) H' := fun H' e => k H' (s1.trans e)
      have h2 := dpAll_same s1 _ _ h2
      have h4 := dpAll_same s1 _ _ h4
      have h1 := s1.seq h1
      have h3 := s1.seq h3
      generalize upd H t (.tup [.ty "int", .ty "str"]) = H1 at h1 h2 h3 h4 k ⊢
      refine ⟨_, rfl, _, _, .type "list", .type "list", true, rfl, .ty _, sqL_ty h3, kit_ty (by decide +kernel), ?_⟩
      refine ⟨_, rfl, _, _, .type "list", .type "list", true, rfl, .ty _, sqL_ty h1, kit_ty (by decide +kernel), rfl, false, rfl, iteF ?_⟩
      refine ⟨_, rfl, _, _, .type "list", .type "tuple", false, rfl, .ty _, sqL_ty h3, kit_ty (by decide +kernel), ?_⟩
      refine ⟨_, rfl, _, _, .type "list", .type "tuple", false, rfl, .ty _, sqL_ty h1, kit_ty (by decide +kernel), rfl, false, rfl, iteF ?_⟩
      refine ⟨_, rfl, a, xs, rfl, .inl h1, _, rfl, b, ys, rfl, .inl h3, rfl, true, by rw [ex, ey]; exact congrArg V.bl (decide_eq_true rfl), iteT ?_⟩
      refine ⟨_, rfl, _, rfl, a, b, xs, ys, rfl, .inl ⟨h1, h3, fun D hD => lc_any (n := xs.length) (fun i H' => Same H1 H' ∧ H' D = some (.lst ((List.replicate i true).map V.bl))) ⟨(Same.refl _).new hD, upd_same⟩ ?_ ?_⟩⟩
      · intro i H' hix q
        refine ⟨(go_zipL (by rw [ex, ey]) hix ((q.1).seq h1) ((q.1).seq h3)).1, fun v Hv yv => ?_⟩
        obtain ⟨T, x, y, rfl, hT, rfl, hx, hy⟩ := (go_zipL (by rw [ex, ey]) hix ((q.1).seq h1) ((q.1).seq h3)).2 v Hv yv
        obtain ⟨d, hd, dx⟩ := dpAll_get _ _ _ _ h2 hx
        obtain ⟨d', hd', dy⟩ := dpAll_get _ _ _ _ h4 hy
        cases hd.symm.trans hd'
        have hi : i < ds.length := (List.getElem?_eq_some_iff.mp hd).1
        have hsd := h d (List.mem_of_getElem? hd)
        have nD : D ≠ T := ne_of_none q.2 hT
        refine ⟨T, _, rfl, .inl (.inl upd_same), rfl, x, [y], rfl, y, [], rfl, rfl, rfl, ?_⟩
        have sT : Same H' (upd H' T (.tup [x, y])) := (Same.refl _).new hT
        refine ⟨_, rfl, _, rfl, x, y, d, _, rfl, dp_same (q.1.trans sT) _ _ dx, dp_same (q.1.trans sT) _ _ dy, rfl, hsd, fun H2 e2 => ⟨_, e2 _ _ (sT _ _ q.2), ?_, ((q.1.trans sT).trans e2).own hD, ?_⟩⟩
        · rw [List.length_map, List.length_replicate]
          exact Nat.lt_of_lt_of_le (Nat.lt_of_lt_of_le hi l) (by decide)
        · rw [upd_same, List.replicate_succ', List.map_append]
          rfl
      · intro H' q
        refine ⟨⟨xs, ys, (q.1).seq h1, (q.1).seq h3, .inl (Nat.le_refl _)⟩, ?_⟩
        refine ⟨D, _, rfl, SqL.of q.2, ?_⟩
        have e : (List.replicate xs.length true).all id = true := by
          rw [List.all_eq_true]
          intro z hz
          rw [List.eq_of_mem_replicate hz]
          rfl
        show Q (.bl ((List.replicate xs.length true).all id)) H'
        rw [e]
        exact k _ q.1
    | tup h l =>
      cases hx with
      | tup h1 h2 =>
      cases hy with
      | tup h3 h4 =>
      rename_i ds a xs b ys
      have ex := dpAll_len _ _ h2
      have ey := dpAll_len _ _ h4
      refine ⟨_, rfl, false, rfl, iteF ?_⟩
      refine ⟨_, rfl, _, _, .type "tuple", .type "bool", false, rfl, .ty _, sqT_ty h3, kit_ty (by decide +kernel), false, rfl, iteF ?_⟩
      refine ⟨_, rfl, _, _, .type "tuple", .type "bool", false, rfl, .ty _, sqT_ty h1, kit_ty (by decide +kernel), false, rfl, iteF ?_⟩
      refine ⟨_, rfl, by show 2 ≤ sizeLine; decide, fun t ht => ⟨_, t, _, .type "tuple", [.type "int", .type "str"], false, rfl, upd_same, .cons (.ty _) (.cons (.ty _) .nil), sqT_ty (same_t ((Same.refl _).new ht) h3), kitAny_cons (b := false) (kit_ty (by decide +kernel)) (fun _ => kitAny_cons (b := false) (kit_ty (by decide +kernel)) (fun _ => rfl) (fun z => nomatch z)) (fun z => nomatch z), false, rfl, iteF ?_⟩⟩
      have s1 : Same H (upd H t (.tup [.ty "int", .ty "str"])) := (Same.refl _).new ht
      have k : ∀ H', Same (upd H t (.tup [.ty "int", .ty "str"])) H' → Q (.bl true) H' := fun H' e => k H' (s1.trans e)
      have h2 := dpAll_same s1 _ _ h2
      have h4 := dpAll_same s1 _ _ h4
      have h1 := same_t s1 h1
      have h3 := same_t s1 h3
      generalize upd H t (.tup [.ty "int", .ty "str"]) = H1 at h1 h2 h3 h4 k ⊢
      refine ⟨_, rfl, _, _, .type "tuple", .type "list", false, rfl, .ty _, sqT_ty h3, kit_ty (by decide +kernel), ?_⟩
      refine ⟨_, rfl, _, _, .type "tuple", .type "list", false, rfl, .ty _, sqT_ty h1, kit_ty (by decide +kernel), rfl, false, rfl, iteF ?_⟩
      refine ⟨_, rfl, _, _, .type "tuple", .type "tuple", true, rfl, .ty _, sqT_ty h3, kit_ty (by decide +kernel), ?_⟩
      refine ⟨_, rfl, _, _, .type "tuple", .type "tuple", true, rfl, .ty _, sqT_ty h1, kit_ty (by decide +kernel), rfl, false, rfl, iteF ?_⟩
      refine ⟨_, rfl, a, xs, rfl, .inr h1, _, rfl, b, ys, rfl, .inr h3, rfl, true, by rw [ex, ey]; exact congrArg V.bl (decide_eq_true rfl), iteT ?_⟩
      refine ⟨_, rfl, _, rfl, a, b, xs, ys, rfl, .inr ⟨h1, h3, fun D hD => lc_any (n := xs.length) (fun i H' => Same H1 H' ∧ H' D = some (.lst ((List.replicate i true).map V.bl))) ⟨(Same.refl _).new hD, upd_same⟩ ?_ ?_⟩⟩
      · intro i H' hix q
        refine ⟨(go_zipT (by rw [ex, ey]) hix (same_t (q.1) h1) (same_t (q.1) h3)).1, fun v Hv yv => ?_⟩
        obtain ⟨T, x, y, rfl, hT, rfl, hx, hy⟩ := (go_zipT (by rw [ex, ey]) hix (same_t (q.1) h1) (same_t (q.1) h3)).2 v Hv yv
        obtain ⟨d, hd, dx⟩ := dpAll_get _ _ _ _ h2 hx
        obtain ⟨d', hd', dy⟩ := dpAll_get _ _ _ _ h4 hy
        cases hd.symm.trans hd'
        have hi : i < ds.length := (List.getElem?_eq_some_iff.mp hd).1
        have hsd := h d (List.mem_of_getElem? hd)
        have nD : D ≠ T := ne_of_none q.2 hT
        refine ⟨T, _, rfl, .inl (.inl upd_same), rfl, x, [y], rfl, y, [], rfl, rfl, rfl, ?_⟩
        have sT : Same H' (upd H' T (.tup [x, y])) := (Same.refl _).new hT
        refine ⟨_, rfl, _, rfl, x, y, d, _, rfl, dp_same (q.1.trans sT) _ _ dx, dp_same (q.1.trans sT) _ _ dy, rfl, hsd, fun H2 e2 => ⟨_, e2 _ _ (sT _ _ q.2), ?_, ((q.1.trans sT).trans e2).own hD, ?_⟩⟩
        · rw [List.length_map, List.length_replicate]
          exact Nat.lt_of_lt_of_le (Nat.lt_of_lt_of_le hi l) (by decide)
        · rw [upd_same, List.replicate_succ', List.map_append]
          rfl
      · intro H' q
        refine ⟨⟨xs, ys, same_t (q.1) h1, same_t (q.1) h3, .inl (Nat.le_refl _)⟩, ?_⟩
        refine ⟨D, _, rfl, SqL.of q.2, ?_⟩
        have e : (List.replicate xs.length true).all id = true := by
          rw [List.all_eq_true]
          intro z hz
          rw [List.eq_of_mem_replicate hz]
          rfl
        show Q (.bl ((List.replicate xs.length true).all id)) H'
        rw [e]
        exact k _ q.1
theorem ok_same {f : Addr} {fd : FuncData} (F : Fun K "_law_same" "_law_same" sSame f fd) (mS : mg "_law_same" = some (.ref f)) (bS : Binds K fd ["_law_found", "_law_due"] []) (B : Blt mg) : ∀ n, FnOk P w K mg base CX0 n f fd ["_law_found", "_law_due"] (spSame K n)
  | 0 => by
    have no : ∀ vs H Q E, ¬ spSame K 0 vs H Q E := fun vs H Q E ⟨x, y, d, m, _, _, _, h, _⟩ => by omega
    exact ⟨fun vs H Q E h => absurd h (no vs H Q E), fun A outer s H args us vs Q E _ _ _ _ h => absurd h (no vs H Q E)⟩
  | n + 1 => ok_same_step F (ok_same F mS bS B n) mS bS B
end
end Own

namespace Own
open PySem L2
abbrev sCopied : Stmt := topT 3
/-! what stands in H' and not in H; without D -/
def newr (H H' : Hp) : Hp := fun b => match H b with | none => H' b | some _ => none
def cut (D : Addr) (G : Hp) : Hp := fun b => if b = D then none else G b
theorem newr_at {H H' : Hp} {b : Addr} (h : H b = none) : newr H H' b = H' b := by unfold newr; rw [h]
theorem newr_some {H H' : Hp} {b : Addr} {o : HO} (h : newr H H' b = some o) : H b = none ∧ H' b = some o := by
  unfold newr at h
  cases e : H b with
  | none => rw [e] at h; exact ⟨rfl, h⟩
  | some u => rw [e] at h; cases h
theorem newr_mono {H H1 H2 : Hp} (e : Same H1 H2) : Same (newr H H1) (newr H H2) := fun b o h => by
  obtain ⟨h1, h2⟩ := newr_some h
  rw [newr_at h1]; exact e _ _ h2
theorem newr_old {H H1 H2 : Hp} (e : Same H H1) : Same (newr H1 H2) (newr H H2) := fun b o h => by
  obtain ⟨h1, h2⟩ := newr_some h
  rw [newr_at (e.free h1)]; exact h2
theorem newr_in {H H' : Hp} : Same (newr H H') H' := fun _ _ h => (newr_some h).2
theorem cut_in {D : Addr} {G : Hp} : Same (cut D G) G := fun b o h => by
  unfold cut at h
  split at h
  · cases h
  · exact h
theorem cut_mono {D : Addr} {G G' : Hp} (e : Same G G') : Same (cut D G) (cut D G') := fun b o h => by
  unfold cut at h ⊢
  split at h
  · cases h
  · rename_i n; rw [if_neg n]; exact e _ _ h
theorem cut_step {H H3 H4 : Hp} {D : Addr} {o : HO} (e : Same H H3) (hD : H3 D = some o) : Same (newr H3 H4) (cut D (newr H H4)) := fun b u h => by
  obtain ⟨h1, h2⟩ := newr_some h
  unfold cut
  rw [if_neg (fun z => by rw [z, hD] at h1; cases h1), newr_at (e.free h1)]
  exact h2
theorem cut_upd {H H4 : Hp} {D : Addr} {o : HO} : Same (cut D (newr H H4)) (cut D (newr H (upd H4 D o))) := fun b u h => by
  unfold cut at h ⊢
  split at h
  · cases h
  · rename_i n
    obtain ⟨h1, h2⟩ := newr_some h
    rw [if_neg n, newr_at h1, upd_ne n]; exact h2
theorem dpAll_snoc {K : PySem.W.Frag} {H : Hp} {d : PyData} {v : V} : ∀ (ds : List PyData) (vs : List V), DpAll K H vs ds → Dp K H v d → DpAll K H (vs ++ [v]) (ds ++ [d])
  | [], vs, h, k => by cases h; exact .cons k .nil
  | e :: ds, vs, h, k => by
    cases h with
    | cons h1 h2 => exact .cons h1 (dpAll_snoc ds _ h2 k)
def spCopied (K : PySem.W.Frag) (n : Nat) : Sp := fun vs H Q _ => ∃ (x : V) (d : PyData) (m : Nat), vs = [x] ∧ Dp K H x d ∧ n = m + 1 ∧ Shal m d ∧ ∀ H' y, Same H H' → Dp K (newr H H') y d → Q y H'
section
variable {P : Program} {w : World} {K : PySem.W.Frag} {mg : Str → Option Value} {base : Heap}
theorem scCopied : FnScope ["value", "item"] ["value"] (defScope sCopied) := ⟨rfl, rfl, rfl, by decide +kernel, rfl, by decide +kernel, by decide +kernel⟩
theorem ok_copied_step {n : Nat} {f : Addr} {fd : FuncData} (F : Fun K "copied" "copied" sCopied f fd) (G : FnOk P w K mg base CX0 n f fd ["value"] (spCopied K n)) (mC : mg "copied" = some (.ref f)) (bC : Binds K fd ["value"] []) (B : Blt mg) :
    FnOk P w K mg base CX0 (n + 1) f fd ["value"] (spCopied K (n + 1)) := by
  refine F.ok scCopied (fun vs H Q E h => ?_) (fun cdv A outer s H vs Q E hr h => ?_)
  · obtain ⟨x, d, m, rfl, _⟩ := h
    rfl
  · obtain ⟨x, d, m, rfl, hx, hnm, hs, k⟩ := h
    obtain rfl : n = m := Nat.succ.inj hnm
    refine ⟨_, pss_cons (ps_if (pt_val (pe_callB call_isi (by rfl) B.isi (by decide +kernel) (pa_cons (pv 0) (pa_cons (pe_bltn (v := .ty "list") (by rfl) B.list (by decide +kernel) rfl) pa_nil))))
        (pss_one (ps_ret (pe_lc (own := [("item", 1)]) (g := gName 1) (tt := tYes) rfl scCopied.nd (pi_list (pv 0)) (blkOk_by (N := ["value", "item"]) (sc := defScope sCopied) (by decide +kernel)) (fun _ _ _ _ _ => pg_name (i := 1) scCopied.nd rfl (Or.inl rfl)) (fun _ _ _ _ _ => pts_nil)
          (fun _ _ _ _ _ => pe_call G (hr.mono (by omega)) rfl mC F.kp bC .nil pass0 (pa_cons (pv 1) pa_nil))))) pss_nil)
      (pss_cons (ps_if (pt_val (pe_callB call_isi (by rfl) B.isi (by decide +kernel) (pa_cons (pv 0) (pa_cons (pe_bltn (v := .ty "tuple") (by rfl) B.tuple (by decide +kernel) rfl) pa_nil))))
        (pss_one (ps_ret (pe_callTy call_tuple_of (by rfl) B.tuple (by decide +kernel) (pa_cons (pe_lc (own := [("item", 1)]) (g := gName 1) (tt := tYes) rfl scCopied.nd (pi_tup (pv 0)) (blkOk_by (N := ["value", "item"]) (sc := defScope sCopied) (by decide +kernel)) (fun _ _ _ _ _ => pg_name (i := 1) scCopied.nd rfl (Or.inl rfl)) (fun _ _ _ _ _ => pts_nil)
          (fun _ _ _ _ _ => pe_call G (hr.mono (by omega)) rfl mC F.kp bC .nil pass0 (pa_cons (pv 1) pa_nil))) pa_nil)))) pss_nil)
      (pss_one (ps_ret (pv 0)))), ?_⟩
    cases hs with
    | non =>
      cases hx
      exact ⟨_, rfl, _, _, .type "NoneType", .type "list", false, rfl, .ty _, .base .non, kit_ty (by decide +kernel), false, rfl, iteF ⟨_, rfl, _, _, .type "NoneType", .type "tuple", false, rfl, .ty _, .base .non, kit_ty (by decide +kernel), false, rfl, iteF ⟨_, rfl, k _ _ (Same.refl _) .non⟩⟩⟩
    | bl b =>
      cases hx
      exact ⟨_, rfl, _, _, .type "bool", .type "list", false, rfl, .ty _, .base (.bl b), kit_ty (by decide +kernel), false, rfl, iteF ⟨_, rfl, _, _, .type "bool", .type "tuple", false, rfl, .ty _, .base (.bl b), kit_ty (by decide +kernel), false, rfl, iteF ⟨_, rfl, k _ _ (Same.refl _) (.bl b)⟩⟩⟩
    | int i =>
      cases hx
      exact ⟨_, rfl, _, _, .type "int", .type "list", false, rfl, .ty _, .base (.int i), kit_ty (by decide +kernel), false, rfl, iteF ⟨_, rfl, _, _, .type "int", .type "tuple", false, rfl, .ty _, .base (.int i), kit_ty (by decide +kernel), false, rfl, iteF ⟨_, rfl, k _ _ (Same.refl _) (.int i)⟩⟩⟩
    | str z =>
      cases hx
      exact ⟨_, rfl, _, _, .type "str", .type "list", false, rfl, .ty _, .base (.str z), kit_ty (by decide +kernel), false, rfl, iteF ⟨_, rfl, _, _, .type "str", .type "tuple", false, rfl, .ty _, .base (.str z), kit_ty (by decide +kernel), false, rfl, iteF ⟨_, rfl, k _ _ (Same.refl _) (.str z)⟩⟩⟩
    | lst h l =>
      cases hx with
      | lst h1 h2 =>
      rename_i ds a xs
      have ex := dpAll_len _ _ h2
      refine ⟨_, rfl, _, _, .type "list", .type "list", true, rfl, .ty _, sqL_ty h1, kit_ty (by decide +kernel), true, rfl, iteT ?_⟩
      refine ⟨_, rfl, a, rfl, ⟨_, h1⟩, fun D hD => lc_list (K := K) (a := a) (xs := xs) (fun i H' => Same H H' ∧ ∃ ys, H' D = some (.lst ys) ∧ ys.length = i ∧ DpAll K (cut D (newr H H')) ys (ds.take i)) ⟨(Same.refl _).new hD, [], upd_same, rfl, .nil⟩ (fun i H' _ q => q.1.seq h1) ?_ ?_⟩
      · rintro i y H' hi ⟨s1, ys, hD1, hyl, hys⟩
        obtain ⟨e, he, de⟩ := dpAll_get _ _ _ _ h2 hi
        have hil : i < ds.length := (List.getElem?_eq_some_iff.mp he).1
        refine ⟨rfl, ⟨_, rfl, y, e, _, rfl, dp_same s1 _ _ de, rfl, h e (List.mem_of_getElem? he), fun H2 z e2 dz => ⟨ys, e2 _ _ hD1, ?_, (s1.trans e2).own hD, ys ++ [z], upd_same, by rw [List.length_append, hyl]; rfl, ?_⟩⟩⟩
        · rw [hyl]; exact Nat.lt_of_lt_of_le (Nat.lt_of_lt_of_le hil l) (by decide)
        · rw [List.take_add_one, he]
          exact dpAll_snoc _ _ (dpAll_same ((cut_mono (newr_mono e2)).trans cut_upd) _ _ hys) (dp_same ((cut_step s1 hD1).trans cut_upd) _ _ dz)
      · rintro H' ⟨s1, ys, hD1, hyl, hys⟩
        rw [ex, List.take_length] at hys
        exact k _ _ s1 (.lst (SqL.of (by rw [newr_at hD]; exact hD1)) (dpAll_same cut_in _ _ hys))
    | tup h l =>
      cases hx with
      | tup h1 h2 =>
      rename_i ds a xs
      have ex := dpAll_len _ _ h2
      refine ⟨_, rfl, _, _, .type "tuple", .type "list", false, rfl, .ty _, sqT_ty h1, kit_ty (by decide +kernel), false, rfl, iteF ?_⟩
      refine ⟨_, rfl, _, _, .type "tuple", .type "tuple", true, rfl, .ty _, sqT_ty h1, kit_ty (by decide +kernel), true, rfl, iteT ?_⟩
      refine ⟨_, rfl, a, rfl, ⟨_, h1⟩, fun D hD => lc_tup (K := K) (a := a) (xs := xs) (fun i H' => Same H H' ∧ ∃ ys, H' D = some (.lst ys) ∧ ys.length = i ∧ DpAll K (cut D (newr H H')) ys (ds.take i)) ⟨(Same.refl _).new hD, [], upd_same, rfl, .nil⟩ (fun i H' _ q => same_t q.1 h1) ?_ ?_⟩
      · rintro i y H' hi ⟨s1, ys, hD1, hyl, hys⟩
        obtain ⟨e, he, de⟩ := dpAll_get _ _ _ _ h2 hi
        have hil : i < ds.length := (List.getElem?_eq_some_iff.mp he).1
        refine ⟨rfl, ⟨_, rfl, y, e, _, rfl, dp_same s1 _ _ de, rfl, h e (List.mem_of_getElem? he), fun H2 z e2 dz => ⟨ys, e2 _ _ hD1, ?_, (s1.trans e2).own hD, ys ++ [z], upd_same, by rw [List.length_append, hyl]; rfl, ?_⟩⟩⟩
        · rw [hyl]; exact Nat.lt_of_lt_of_le (Nat.lt_of_lt_of_le hil l) (by decide)
        · rw [List.take_add_one, he]
          exact dpAll_snoc _ _ (dpAll_same ((cut_mono (newr_mono e2)).trans cut_upd) _ _ hys) (dp_same ((cut_step s1 hD1).trans cut_upd) _ _ dz)
      · rintro H' ⟨s1, ys, hD1, hyl, hys⟩
        rw [ex, List.take_length] at hys
        refine ⟨D, ys, rfl, .inl ⟨SqL.of hD1, fun T hT => k _ _ (s1.new hT) (.tup (SqT.of (by rw [newr_at (s1.free hT)]; exact upd_same)) (dpAll_same (cut_in.trans (newr_mono ((Same.refl _).new hT))) _ _ hys))⟩⟩
theorem ok_copied {f : Addr} {fd : FuncData} (F : Fun K "copied" "copied" sCopied f fd) (mC : mg "copied" = some (.ref f)) (bC : Binds K fd ["value"] []) (B : Blt mg) : ∀ n, FnOk P w K mg base CX0 n f fd ["value"] (spCopied K n)
  | 0 => by
    have no : ∀ vs H Q E, ¬ spCopied K 0 vs H Q E := fun vs H Q E ⟨x, d, m, _, _, h, _⟩ => by omega
    exact ⟨fun vs H Q E h => absurd h (no vs H Q E), fun A outer s H args us vs Q E _ _ _ _ h => absurd h (no vs H Q E)⟩
  | n + 1 => ok_copied_step F (ok_copied F mC bC B n) mC bC B
end
end Own

namespace Own
open PySem L2
/-- X(e): an exception of the class at C, its code, its attribute -/
def spInit1 (K : PySem.W.Frag) (C : Addr) (cname attr : Str) : Sp := fun vs H Q _ => ∃ (a : Addr) (H1 : Hp) (x : V) (d : PyData), vs = [.ref a, x] ∧ H1 a = none ∧ H = upd H1 a (exo a C none) ∧ Dp K H1 x d ∧ Shal 2 d ∧ ∀ (H' : Hp) (dd : Addr) (y : V), Same H1 H' → H1 dd = none → H' a = some (exo a C (some dd)) → H' dd = some (exd dd [(attr, y), ("code", .str cname)]) → Dp K (newr H1 H') y d → Q .non H'
def spInit0 (C : Addr) (cname : Str) : Sp := fun vs H Q _ => ∃ (a : Addr) (H1 : Hp), vs = [.ref a] ∧ H1 a = none ∧ H = upd H1 a (exo a C none) ∧ ∀ (H' : Hp) (dd : Addr), Same H1 H' → H' a = some (exo a C (some dd)) → H' dd = some (exd dd [("code", .str cname)]) → Q .non H'
theorem init_read1 {K : PySem.W.Frag} {C : Addr} {cname attr : Str} {N : List Str} {vs : List V} {H : Hp} {Q : VK} {E : XK} (T : ExK K C) (n1 : PySem.W.findIn K (.ref C) "code" = some none) (n2 : PySem.W.findIn K (.ref C) attr = some none) (h : spInit1 K C cname attr vs H Q E) (hN : N.length = 2) :
    tSeq (tStx K "code" (tVar 0) (tC (.str cname))) (tStx K attr (tVar 0) (tCall (spCopied K 3) [] E0 (tCons (tVar 1) tNil))) { nx := fun _ H' => Q .non H', rt := Q } (start N vs) H := by
  obtain ⟨a, H1, x, d, rfl, ha, rfl, hx, hs, k⟩ := h
  obtain ⟨n, m, rfl⟩ : ∃ n m, N = [n, m] := match N, hN with | [n, m], _ => ⟨n, m, rfl⟩
  refine ⟨_, rfl, a, C, rfl, T, n1, .inl ⟨upd_same, fun dd hd hne => ?_⟩⟩
  have hd1 : H1 dd = none := by rw [upd_ne hne] at hd; exact hd
  have s1 : Same H1 (upd (upd (upd H1 a (exo a C none)) dd (exd dd [("code", .str cname)])) a (exo a C (some dd))) := fun b o e => by
    rw [upd_ne (ne_of_none e ha), upd_ne (ne_of_none e hd1), upd_ne (ne_of_none e ha)]; exact e
  have e1 : (upd (upd (upd H1 a (exo a C none)) dd (exd dd [("code", .str cname)])) a (exo a C (some dd))) a = some (exo a C (some dd)) := upd_same
  have e2 : (upd (upd (upd H1 a (exo a C none)) dd (exd dd [("code", .str cname)])) a (exo a C (some dd))) dd = some (exd dd [("code", .str cname)]) := by rw [upd_ne hne]; exact upd_same
  generalize upd (upd (upd H1 a (exo a C none)) dd (exd dd [("code", .str cname)])) a (exo a C (some dd)) = H2 at s1 e1 e2 ⊢
  refine ⟨_, rfl, x, d, _, rfl, dp_same s1 _ _ hx, rfl, hs, fun H3 y e3 hy => ⟨_, rfl, a, C, rfl, T, n2, .inr ⟨dd, _, e3 _ _ e1, e3 _ _ e2, (by show 1 ≤ 900; decide), ?_⟩⟩⟩
  refine k _ dd y ((s1.trans e3).own hd1) hd1 (by rw [upd_ne hne.symm]; exact e3 _ _ e1) upd_same (dp_same (fun b o q => ?_) _ _ hy)
  obtain ⟨q1, q2⟩ := newr_some q
  rw [newr_at (s1.free q1), upd_ne (fun z => by rw [z, e2] at q1; cases q1)]
  exact q2
theorem init_read0 {K : PySem.W.Frag} {C : Addr} {cname : Str} {N : List Str} {vs : List V} {H : Hp} {Q : VK} {E : XK} (T : ExK K C) (n1 : PySem.W.findIn K (.ref C) "code" = some none) (h : spInit0 C cname vs H Q E) (hN : N.length = 1) :
    tStx K "code" (tVar 0) (tC (.str cname)) { nx := fun _ H' => Q .non H', rt := Q } (start N vs) H := by
  obtain ⟨a, H1, rfl, ha, rfl, k⟩ := h
  obtain ⟨n, rfl⟩ : ∃ n, N = [n] := match N, hN with | [n], _ => ⟨n, rfl⟩
  refine ⟨_, rfl, a, C, rfl, T, n1, .inl ⟨upd_same, fun dd hd hne => ?_⟩⟩
  have hd1 : H1 dd = none := by rw [upd_ne hne] at hd; exact hd
  refine k _ dd (fun b o e => ?_) upd_same (by rw [upd_ne hne]; exact upd_same)
  rw [upd_ne (ne_of_none e ha), upd_ne (ne_of_none e hd1), upd_ne (ne_of_none e ha)]; exact e
section
variable {P : Program} {w : World} {K : PySem.W.Frag} {mg : Str → Option Value} {base : Heap}
abbrev sI0 : Stmt := inClass (topT 7) 0
theorem scI0 : FnScope ["self", "given"] ["self", "given"] (defScope sI0) := ⟨rfl, rfl, rfl, by decide +kernel, rfl, by decide +kernel, by decide +kernel⟩
theorem ok_i0 {f fC C : Addr} {fd fdC : FuncData} (F : Fun K "__init__" "WrongCount.__init__" sI0 f fd) (G : FnOk P w K mg base CX0 3 fC fdC ["value"] (spCopied K 3)) (mC : mg "copied" = some (.ref fC)) (kC : PySem.W.keepIn K (.ref fC) = true) (bC : Binds K fdC ["value"] []) (T : ExK K C) (n1 : PySem.W.findIn K (.ref C) "code" = some none) (n2 : PySem.W.findIn K (.ref C) "given" = some none) :
    FnOk P w K mg base CX0 4 f fd ["self", "given"] (spInit1 K C "WrongCount" "given") :=
  F.ok scI0 (fun vs H Q E ⟨a, H1, x, d, e, _⟩ => by rw [e]; rfl) (fun cdv A outer s H vs Q E hr h => ⟨_, pss_cons (ps_stx (pv 0) pe_str) (pss_one (ps_stx (pv 0) (pe_call G hr rfl mC kC bC .nil pass0 (pa_cons (pv 1) pa_nil)))), init_read1 T n1 n2 h rfl⟩)
abbrev sI1 : Stmt := inClass (topT 8) 0
theorem scI1 : FnScope ["self", "given"] ["self", "given"] (defScope sI1) := ⟨rfl, rfl, rfl, by decide +kernel, rfl, by decide +kernel, by decide +kernel⟩
theorem ok_i1 {f fC C : Addr} {fd fdC : FuncData} (F : Fun K "__init__" "InvalidNumber.__init__" sI1 f fd) (G : FnOk P w K mg base CX0 3 fC fdC ["value"] (spCopied K 3)) (mC : mg "copied" = some (.ref fC)) (kC : PySem.W.keepIn K (.ref fC) = true) (bC : Binds K fdC ["value"] []) (T : ExK K C) (n1 : PySem.W.findIn K (.ref C) "code" = some none) (n2 : PySem.W.findIn K (.ref C) "given" = some none) :
    FnOk P w K mg base CX0 4 f fd ["self", "given"] (spInit1 K C "InvalidNumber" "given") :=
  F.ok scI1 (fun vs H Q E ⟨a, H1, x, d, e, _⟩ => by rw [e]; rfl) (fun cdv A outer s H vs Q E hr h => ⟨_, pss_cons (ps_stx (pv 0) pe_str) (pss_one (ps_stx (pv 0) (pe_call G hr rfl mC kC bC .nil pass0 (pa_cons (pv 1) pa_nil)))), init_read1 T n1 n2 h rfl⟩)
abbrev sI2 : Stmt := inClass (topT 9) 0
theorem scI2 : FnScope ["self", "given"] ["self", "given"] (defScope sI2) := ⟨rfl, rfl, rfl, by decide +kernel, rfl, by decide +kernel, by decide +kernel⟩
theorem ok_i2 {f fC C : Addr} {fd fdC : FuncData} (F : Fun K "__init__" "InvalidWord.__init__" sI2 f fd) (G : FnOk P w K mg base CX0 3 fC fdC ["value"] (spCopied K 3)) (mC : mg "copied" = some (.ref fC)) (kC : PySem.W.keepIn K (.ref fC) = true) (bC : Binds K fdC ["value"] []) (T : ExK K C) (n1 : PySem.W.findIn K (.ref C) "code" = some none) (n2 : PySem.W.findIn K (.ref C) "given" = some none) :
    FnOk P w K mg base CX0 4 f fd ["self", "given"] (spInit1 K C "InvalidWord" "given") :=
  F.ok scI2 (fun vs H Q E ⟨a, H1, x, d, e, _⟩ => by rw [e]; rfl) (fun cdv A outer s H vs Q E hr h => ⟨_, pss_cons (ps_stx (pv 0) pe_str) (pss_one (ps_stx (pv 0) (pe_call G hr rfl mC kC bC .nil pass0 (pa_cons (pv 1) pa_nil)))), init_read1 T n1 n2 h rfl⟩)
abbrev sI4 : Stmt := inClass (topT 10) 0
theorem scI4 : FnScope ["self", "given"] ["self", "given"] (defScope sI4) := ⟨rfl, rfl, rfl, by decide +kernel, rfl, by decide +kernel, by decide +kernel⟩
theorem ok_i4 {f fC C : Addr} {fd fdC : FuncData} (F : Fun K "__init__" "InvalidPoint.__init__" sI4 f fd) (G : FnOk P w K mg base CX0 3 fC fdC ["value"] (spCopied K 3)) (mC : mg "copied" = some (.ref fC)) (kC : PySem.W.keepIn K (.ref fC) = true) (bC : Binds K fdC ["value"] []) (T : ExK K C) (n1 : PySem.W.findIn K (.ref C) "code" = some none) (n2 : PySem.W.findIn K (.ref C) "given" = some none) :
    FnOk P w K mg base CX0 4 f fd ["self", "given"] (spInit1 K C "InvalidPoint" "given") :=
  F.ok scI4 (fun vs H Q E ⟨a, H1, x, d, e, _⟩ => by rw [e]; rfl) (fun cdv A outer s H vs Q E hr h => ⟨_, pss_cons (ps_stx (pv 0) pe_str) (pss_one (ps_stx (pv 0) (pe_call G hr rfl mC kC bC .nil pass0 (pa_cons (pv 1) pa_nil)))), init_read1 T n1 n2 h rfl⟩)
abbrev sI5 : Stmt := inClass (topT 11) 0
theorem scI5 : FnScope ["self", "name"] ["self", "name"] (defScope sI5) := ⟨rfl, rfl, rfl, by decide +kernel, rfl, by decide +kernel, by decide +kernel⟩
theorem ok_i5 {f fC C : Addr} {fd fdC : FuncData} (F : Fun K "__init__" "InvalidField.__init__" sI5 f fd) (G : FnOk P w K mg base CX0 3 fC fdC ["value"] (spCopied K 3)) (mC : mg "copied" = some (.ref fC)) (kC : PySem.W.keepIn K (.ref fC) = true) (bC : Binds K fdC ["value"] []) (T : ExK K C) (n1 : PySem.W.findIn K (.ref C) "code" = some none) (n2 : PySem.W.findIn K (.ref C) "name" = some none) :
    FnOk P w K mg base CX0 4 f fd ["self", "name"] (spInit1 K C "InvalidField" "name") :=
  F.ok scI5 (fun vs H Q E ⟨a, H1, x, d, e, _⟩ => by rw [e]; rfl) (fun cdv A outer s H vs Q E hr h => ⟨_, pss_cons (ps_stx (pv 0) pe_str) (pss_one (ps_stx (pv 0) (pe_call G hr rfl mC kC bC .nil pass0 (pa_cons (pv 1) pa_nil)))), init_read1 T n1 n2 h rfl⟩)
abbrev sI19 : Stmt := inClass (topT 12) 0
theorem scI19 : FnScope ["self"] ["self"] (defScope sI19) := ⟨rfl, rfl, rfl, by decide +kernel, rfl, by decide +kernel, by decide +kernel⟩
theorem ok_i19 {f C : Addr} {fd : FuncData} (F : Fun K "__init__" "NothingLeft.__init__" sI19 f fd) (T : ExK K C) (n1 : PySem.W.findIn K (.ref C) "code" = some none) : FnOk P w K mg base CX0 4 f fd ["self"] (spInit0 C "NothingLeft") :=
  F.ok scI19 (fun vs H Q E ⟨a, H1, e, _⟩ => by rw [e]; rfl) (fun cdv A outer s H vs Q E hr h => ⟨_, pss_one (ps_stx (pv 0) pe_str), init_read0 T n1 h rfl⟩)
end
end Own

namespace Own
open PySem L2 PySem.HandSPX
/-! ### data stands while the sequences stand -/
def IsSq (o : HO) : Prop := ∃ xs, o = .lst xs ∨ o = .tup xs ∨ (∃ ob, o = .frz ob (.lst xs)) ∨ ∃ ob, o = .frz ob (.tup xs)
def Seqs (H H' : Hp) : Prop := ∀ b o, IsSq o → H b = some o → H' b = some o
theorem Seqs.of {H H' : Hp} (e : Same H H') : Seqs H H' := fun b o _ h => e b o h
theorem Seqs.trans {H H1 H2 : Hp} (a : Seqs H H1) (b : Seqs H1 H2) : Seqs H H2 := fun c o n h => b c o n (a c o n h)
theorem seqs_l {K : PySem.W.Frag} {H H' : Hp} {a : Addr} {xs : List V} (e : Seqs H H') (h : SqL K H a xs) : SqL K H' a xs := by
  rcases h with (h | ⟨o, h⟩) | h
  · exact .inl (.inl (e _ _ ⟨xs, .inl rfl⟩ h))
  · exact .inl (.inr ⟨o, e _ _ ⟨xs, .inr (.inr (.inl ⟨o, rfl⟩))⟩ h⟩)
  · exact .inr h
theorem seqs_t {K : PySem.W.Frag} {H H' : Hp} {a : Addr} {xs : List V} (e : Seqs H H') (h : SqT K H a xs) : SqT K H' a xs := by
  rcases h with (h | ⟨o, h⟩) | h
  · exact .inl (.inl (e _ _ ⟨xs, .inr (.inl rfl)⟩ h))
  · exact .inl (.inr ⟨o, e _ _ ⟨xs, .inr (.inr (.inr ⟨o, rfl⟩))⟩ h⟩)
  · exact .inr h
mutual
theorem dp_seqs {K : PySem.W.Frag} {H H' : Hp} (e : Seqs H H') : ∀ (d : PyData) (v : V), Dp K H v d → Dp K H' v d
  | .none, v, h => by cases h; exact .non
  | .bool b, v, h => by cases h; exact .bl b
  | .int i, v, h => by cases h; exact .int i
  | .str z, v, h => by cases h; exact .str z
  | .list ds, v, h => by
    cases h with
    | lst h1 h2 => exact .lst (seqs_l e h1) (dpAll_seqs e ds _ h2)
  | .tuple ds, v, h => by
    cases h with
    | tup h1 h2 => exact .tup (seqs_t e h1) (dpAll_seqs e ds _ h2)
  | .dict kvs, v, h => by cases h
theorem dpAll_seqs {K : PySem.W.Frag} {H H' : Hp} (e : Seqs H H') : ∀ (ds : List PyData) (vs : List V), DpAll K H vs ds → DpAll K H' vs ds
  | [], vs, h => by cases h; exact .nil
  | d :: ds, vs, h => by
    cases h with
    | cons h1 h2 => exact .cons (dp_seqs e d _ h1) (dpAll_seqs e ds _ h2)
end
theorem exo_sq {e C : Addr} {d : Option Addr} : ¬ IsSq (exo e C d) := by
  rintro ⟨xs, h | h | ⟨ob, h⟩ | ⟨ob, h⟩⟩
  · have z : HO.ext _ = HO.lst xs := h
    cases z
  · exact exo_tup h
  · exact exo_frz h
  · exact exo_frz h
theorem exd_sq {e : Addr} {fs : List (Str × V)} : ¬ IsSq (exd e fs) := by
  rintro ⟨xs, h | h | ⟨ob, h⟩ | ⟨ob, h⟩⟩
  · have z : HO.ext _ = HO.lst xs := h
    cases z
  · exact exd_tup h
  · have z : HO.ext _ = HO.frz ob (.lst xs) := h
    cases z
  · have z : HO.ext _ = HO.frz ob (.tup xs) := h
    cases z
/-! ### an error that leaves a def -/
/-- at dd the fields of an error cname with attr = d; else all stands -/
def ErrOut (K : PySem.W.Frag) (H H' : Hp) (dd : Addr) (cname attr : Str) (d : PyData) : Prop := Same H H' ∧ H dd = none ∧ ∃ (fs : List (Str × V)) (y : V), H' dd = some (.xd fs) ∧ fs.lookup ("code" : Str) = some (V.str cname) ∧ fs.lookup attr = some y ∧ Dp K (newr H H') y d
theorem ErrOut.pre {K : PySem.W.Frag} {H H0 H' : Hp} {dd : Addr} {cname attr : Str} {d : PyData} (e : ErrOut K H0 H' dd cname attr d) (s : Same H H0) : ErrOut K H H' dd cname attr d := by
  obtain ⟨h1, h2, fs, y, h3, h4, h5, h6⟩ := e
  exact ⟨s.trans h1, s.free h2, fs, y, h3, h4, h5, dp_same (newr_old s) _ _ h6⟩
structure ErrC (P : Program) (w : World) (K : PySem.W.Frag) (mg : Str → Option Value) (base : Heap) (cname attr : Str) (C : Addr) : Prop where
  T : ExK K C
  m : mg cname = some (.ref C)
  ex : ∃ f fd, PySem.W.findIn K (.ref C) "__init__" = some (some (.ref f)) ∧ PySem.W.typeIn K (.ref f) = some (.type "function") ∧ FnOk P w K mg base CX0 4 f fd ["self", attr] (spInit1 K C cname attr) ∧ Binds K fd ["self", attr] []
  ne : (("code" : Str) == attr) = false
section
variable {X : Cx} {cname attr : Str} {C : Addr} {e : Expr} {ta : TA} {p pos : Pos}
def tErr (K : PySem.W.Frag) (C : Addr) (cname attr : Str) (ta : TA) : L2.St → Hp → XK → Prop := fun σ H Q => ta σ H fun vs H1 => ∃ x d, vs = [x] ∧ Dp K H1 x d ∧ Shal 2 d ∧ ∀ dd H', ErrOut K H1 H' dd cname attr d → Q (.ref C) (some dd) H'
theorem pmk_err (c : ErrC X.prog X.w X.K X.mg X.base cname attr C) (hr : Room 5 X.A) (hg : Gl X cname) (ha : PA X [e] ta)
    (hta : ∀ σ H (R R' : List V → Hp → Prop), (∀ vs H1, R vs H1 → R' vs H1) → ta σ H R → ta σ H R')
    (hdb : (cname == ("__debug__" : Str)) = false := by decide) (he : starEach [e] X.env = (false, eval e X.env) :: starEach [] X.env := by rfl) (hpl : (backTo pos (starEach [] X.env)).any (·.1) = false := by rfl) :
    L2.PMk X (.Call (.Name cname p) [e] [] pos) (tErr X.K C cname attr ta) := by
  obtain ⟨f, fd, ic, ti, G, b⟩ := c.ex
  intro pins s σ H Q I h
  refine pmk_mkx c.T ic ti G hr b pass0 hg c.m ha hdb he hpl pins s σ H Q I (hta σ H _ _ (fun vs H1 q => ?_) h)
  obtain ⟨x, d, rfl, hx, hs, k⟩ := q
  refine ⟨by show 1 ≤ 1000; decide, fun a ha => ⟨a, H1, x, d, rfl, ha, rfl, hx, hs, fun H' dd y sm nd ea ed hy => ⟨rfl, dd, _, ea, ed, nd, k dd _ ⟨fun b o hb => ?_, nd, _, y, upd_same, ?_, ?_, dp_seqs (fun b o n hb => ?_) _ _ hy⟩⟩⟩⟩
  · rw [upd_ne (ne_of_none hb nd), del_ne (ne_of_none hb ha)]
    exact sm _ _ hb
  · show (List.lookup ("code" : Str) [(attr, y), (("code" : Str), V.str cname)]) = _
    simp only [List.lookup, c.ne]
    rfl
  · show (List.lookup attr [(attr, y), (("code" : Str), V.str cname)]) = _
    simp [List.lookup]
  · obtain ⟨hb0, hb⟩ := newr_some hb
    have n1 : b ≠ dd := fun z => by rw [z, ed] at hb; cases hb; exact exd_sq n
    have n2 : b ≠ a := fun z => by rw [z, ea] at hb; cases hb; exact exo_sq n
    rw [newr_at hb0, upd_ne n1, del_ne n2]
    exact hb
end
end Own

namespace Own
open PySem L2 PySem.HandSPX
theorem vals_mem_r : ∀ {xs : List V} {us : List Value}, Vals xs us → ∀ {u : Value}, u ∈ us → ∃ z, z ∈ xs ∧ RelV z u
  | _, _, .nil, u, hu => by cases hu
  | y :: xs, w :: us, .cons r t, u, hu => by
    rcases List.mem_cons.mp hu with rfl | hu
    · exact ⟨y, List.mem_cons_self .., r⟩
    · obtain ⟨z, hz, rz⟩ := vals_mem_r t hu
      exact ⟨z, List.mem_cons_of_mem _ hz, rz⟩
/-! ### v not in words, v any value, the words texts -/
def rNotInL (K : PySem.W.Frag) : V → V → Hp → VK → Prop := fun x y H Q => ∃ (l p : Addr) (ys xs : List V), x = .ref l ∧ SqL K H l ys ∧ y = .ref p ∧ SqT K H p xs ∧ (∀ z ∈ xs, ∃ s : Str, z = .str s) ∧ Q (.bl true) H
def rNotInA (K : PySem.W.Frag) : V → V → Hp → VK → Prop := fun x y H Q => rIn K true x y H Q ∨ rNotInL K x y H Q
theorem op_notInA {X : Cx} (hu : X.A.units + 64 < cLine) : OpR X (compareOp .NotIn) (rNotInA X.K) := by
  intro pins s σ H x y v u Q I rx ry h
  rcases h with h | ⟨l, p, ys, xs, rfl, hl, rfl, hq, hs, q⟩
  · exact op_notIn_seq pins s σ H x y v u Q I rx ry h
  · cases ry
    obtain rfl : v = Value.ref l := rx
    obtain ⟨iy, ry', ply, hzy⟩ := I.list hl
    obtain ⟨its, r, pl, hz⟩ := I.tuple hq
    refine SeqAt.notIn_tupleAt (fun _ => false) pl (fun w hw => ?_) ⟨.bl _, H, I, rfl, ?_⟩
    · have hw' : w ∈ its := by simpa using hw
      obtain ⟨z, hz', rz⟩ := vals_mem_r r hw'
      obtain ⟨z', rfl⟩ := hs z hz'
      obtain ⟨t, rfl⟩ := rz
      exact SeqAt.EqAt.str_list _ _ ply.isList (by have h := hu; show X.A.units + _ < cLine; omega)
    · rw [show its.toArray.any (fun _ => false) = false by simp]
      exact q
/-! ### the checks, any values -/
def spNumD (K : PySem.W.Frag) : Sp := fun vs H Q _ => ∃ (v : V) (d : PyData) (lo hi : Int), vs = [v, .int lo, .int hi] ∧ Dp K H v d ∧ Q (.bl (numB d lo hi)) H
def spCkN (K : PySem.W.Frag) (cN : Addr) : Sp := fun vs H Q E => ∃ (v : V) (d : PyData) (lo hi : Int), vs = [v, .int lo, .int hi] ∧ Dp K H v d ∧ Shal 2 d ∧ (numB d lo hi = true → Q .non H) ∧ (numB d lo hi = false → ∀ dd H', ErrOut K H H' dd "InvalidNumber" "given" d → E (.ref cN) (some dd) H')
def wordB : PyData → List Str → Bool
  | .str z, ws => ws.any fun w => w == z
  | _, _ => false
def spCkW (K : PySem.W.Frag) (cW : Addr) : Sp := fun vs H Q E => ∃ (v : V) (d : PyData) (t : Addr) (ws : List Str), vs = [v, .ref t] ∧ SqT K H t (ws.map V.str) ∧ Dp K H v d ∧ Shal 2 d ∧ (∀ ds, d ≠ .tuple ds) ∧ (wordB d ws = true → Q .non H) ∧ (wordB d ws = false → ∀ dd H', ErrOut K H H' dd "InvalidWord" "given" d → E (.ref cW) (some dd) H')
def firstBad (ds : List PyData) (lo hi : Int) : Option PyData := ds.find? fun d => !numB d lo hi
def spCkR (K : PySem.W.Frag) (cC cN : Addr) : Sp := fun vs H Q E => ∃ (t : Addr) (xs : List V) (ds : List PyData) (most : Int), vs = [.ref t, .int most] ∧ SqT K H t xs ∧ DpAll K H xs ds ∧ (∀ d ∈ ds, Shal 2 d) ∧
  (¬ (1 ≤ xs.length ∧ xs.length ≤ 3) → ∀ dd H', ErrOut K H H' dd "WrongCount" "given" (.int xs.length) → E (.ref cC) (some dd) H') ∧
  (1 ≤ xs.length ∧ xs.length ≤ 3 → (∀ d, firstBad ds 1 most = some d → ∀ dd H', ErrOut K H H' dd "InvalidNumber" "given" d → E (.ref cN) (some dd) H') ∧ (firstBad ds 1 most = none → Q .non H))
section
variable {P : Program} {w : World} {K : PySem.W.Frag} {mg : Str → Option Value} {base : Heap}
theorem ok_numD {f : Addr} {fd : FuncData} (F : Fun K "is_number" "is_number" sNum f fd) (zI : mg "isinstance" = none) (zB : mg "bool" = none) (zN : mg "int" = none) : FnOk P w K mg base CX0 1 f fd ["value", "least", "most"] (spNumD K) := by
  refine F.ok scNum (fun vs H Q E h => ?_) (fun cdv A outer s H vs Q E hr h => ?_)
  · obtain ⟨v, d, lo, hi, rfl, _⟩ := h
    rfl
  · obtain ⟨v, d, lo, hi, rfl, hd, k⟩ := h
    refine ⟨_, pss_cons (ps_if (PW.pt (pw_or (pt_val (pe_callB call_isi (by rfl) zI (by decide +kernel) (pa_cons (pv 0) (pa_cons (pe_bltn (v := .ty "bool") (by rfl) zB (by decide +kernel) rfl) pa_nil)))) (pw_or1 (pt_not (pt_val (pe_callB call_isi (by rfl) zI (by decide +kernel) (pa_cons (pv 0) (pa_cons (pe_bltn (v := .ty "int") (by rfl) zN (by decide +kernel) rfl) pa_nil))))))))
      (pss_one (ps_ret pe_bl)) pss_nil) (pss_one (ps_ret (pe_chain op_le op_le (pv 1) (pv 0) (pv 2)))), ?_⟩
    cases hd with
    | non => exact ⟨_, rfl, _, _, .type "NoneType", .type "bool", false, rfl, .ty _, .base .non, kit_ty (by decide +kernel), false, rfl, iteF ⟨_, rfl, _, _, .type "NoneType", .type "int", false, rfl, .ty _, .base .non, kit_ty (by decide +kernel), false, rfl, iteT k⟩⟩
    | bl b => exact ⟨_, rfl, _, _, .type "bool", .type "bool", true, rfl, .ty _, .base (.bl b), kit_ty (by decide +kernel), true, rfl, iteT (iteT k)⟩
    | str z => exact ⟨_, rfl, _, _, .type "str", .type "bool", false, rfl, .ty _, .base (.str z), kit_ty (by decide +kernel), false, rfl, iteF ⟨_, rfl, _, _, .type "str", .type "int", false, rfl, .ty _, .base (.str z), kit_ty (by decide +kernel), false, rfl, iteT k⟩⟩
    | lst h1 h2 => exact ⟨_, rfl, _, _, .type "list", .type "bool", false, rfl, .ty _, sqL_ty h1, kit_ty (by decide +kernel), false, rfl, iteF ⟨_, rfl, _, _, .type "list", .type "int", false, rfl, .ty _, sqL_ty h1, kit_ty (by decide +kernel), false, rfl, iteT k⟩⟩
    | tup h1 h2 => exact ⟨_, rfl, _, _, .type "tuple", .type "bool", false, rfl, .ty _, sqT_ty h1, kit_ty (by decide +kernel), false, rfl, iteF ⟨_, rfl, _, _, .type "tuple", .type "int", false, rfl, .ty _, sqT_ty h1, kit_ty (by decide +kernel), false, rfl, iteT k⟩⟩
    | int n =>
      refine ⟨_, rfl, _, _, .type "int", .type "bool", false, rfl, .ty _, .base (.int n), kit_ty (by decide +kernel), false, rfl, iteF ?_⟩
      refine ⟨_, rfl, _, _, .type "int", .type "int", true, rfl, .ty _, .base (.int n), kit_ty (by decide +kernel), true, rfl, iteF ?_⟩
      have k' : Q (.bl (decide (lo ≤ n) && decide (n ≤ hi))) H := k
      refine ⟨_, rfl, _, rfl, _, _, rfl, rfl, _, rfl, ite2 (fun c => ⟨_, rfl, _, _, rfl, rfl, ?_⟩) (fun c => ?_)⟩
      · rw [c] at k'; exact k'
      · rw [Bool.eq_false_iff.mpr c] at k'; exact k'
theorem ok_ckN {f fN cN : Addr} {fd fdN : FuncData} (F : Fun K "check_number" "check_number" sCkNum f fd) (GN : FnOk P w K mg base CX0 1 fN fdN ["value", "least", "most"] (spNumD K)) (mN : mg "is_number" = some (.ref fN)) (kN : PySem.W.keepIn K (.ref fN) = true) (bN : Binds K fdN ["value", "least", "most"] [])
    (c : ErrC P w K mg base "InvalidNumber" "given" cN) : FnOk P w K mg base (L2.CX P w) 6 f fd ["value", "least", "most"] (spCkN K cN) := by
  refine F.okX scCkNum (fun vs H Q E h => ?_) (fun cdv A outer s H vs Q E hr h => ?_)
  · obtain ⟨v, d, lo, hi, rfl, _⟩ := h
    rfl
  · obtain ⟨v, d, lo, hi, rfl, hd, hs, k1, k2⟩ := h
    refine ⟨_, pss_one (ps_if (pt_not (pt_val (pe_call GN (hr.mono (by decide)) rfl mN kN bN .nil pass0 (pa_cons (pv 0) (pa_cons (pv 1) (pa_cons (pv 2) pa_nil)))))) (pss_one (ps_raise rfl (takes_of rfl rfl rfl rfl) (pmk_err c hr (by rfl) (pa_cons (pv 0) pa_nil) (fun σ H R R' f ⟨x, h, q⟩ => ⟨x, h, f _ _ q⟩)))) pss_nil), ?_⟩
    refine ⟨_, rfl, _, rfl, _, rfl, v, d, lo, hi, rfl, hd, _, rfl, ite2 (fun c => ?_) (fun c => ?_)⟩
    · have c' : numB d lo hi = false := by simpa using c
      exact ⟨_, rfl, v, d, rfl, hd, hs, fun dd H' eo => k2 c' dd H' eo⟩
    · exact k1 (by simpa using c)
theorem str_inV (z : Str) : ∀ ws : List Str, inV (.str z) (ws.map V.str) = wordB (.str z) ws := fun ws => by
  show (ws.map V.str).any (fun y => eqV y (.str z)) = ws.any fun w => w == z
  rw [List.any_map]
  rfl
theorem all_flat : ∀ ws : List Str, (ws.map V.str).all flatV = true
  | [] => rfl
  | _ :: ws => by rw [List.map_cons, List.all_cons, all_flat ws]; rfl
theorem flat_no {x : V} (h : ∀ w : Str, eqV (.str w) x = false) : ∀ ws : List Str, inV x (ws.map V.str) = false := fun ws => by
  show (ws.map V.str).any (fun y => eqV y x) = false
  rw [List.any_map, List.any_eq_false]
  intro w _
  show ¬ eqV (.str w) x = true
  rw [h w]
  exact Bool.false_ne_true
theorem ok_ckW {f cW : Addr} {fd : FuncData} (F : Fun K "check_word" "check_word" sCkWord f fd) (c : ErrC P w K mg base "InvalidWord" "given" cW) : FnOk P w K mg base (L2.CX P w) 6 f fd ["value", "words"] (spCkW K cW) := by
  refine F.okX scCkWord (fun vs H Q E h => ?_) (fun cdv A outer s H vs Q E hr h => ?_)
  · obtain ⟨v, d, t, ws, rfl, _⟩ := h
    rfl
  · obtain ⟨v, d, t, ws, rfl, ht, hd, hs, nt, k1, k2⟩ := h
    refine ⟨_, pss_one (ps_if (pt_cmpR (op_notInA hr.units) (pv 0) (pv 1) (by rfl)) (pss_one (ps_raise rfl (takes_of rfl rfl rfl rfl) (pmk_err c hr (by rfl) (pa_cons (pv 0) pa_nil) (fun σ H R R' f ⟨x, h, q⟩ => ⟨x, h, f _ _ q⟩)))) pss_nil), ?_⟩
    have done : wordB d ws = false → ∀ dd H', ErrOut K H H' dd "InvalidWord" "given" d → E (.ref cW) (some dd) H' := k2
    refine ⟨_, rfl, _, rfl, ?_⟩
    have raise_ : wordB d ws = false → tErr K cW "InvalidWord" "given" (tCons (tVar 0) tNil) (start ["value", "words"] [v, .ref t]) H (fun cls d H' => E cls d H') := fun c => ⟨_, rfl, v, d, rfl, hd, hs, fun dd H' eo => k2 c dd H' eo⟩
    cases hd with
    | str z =>
      refine .inl ⟨t, _, rfl, .inr ht, rfl, all_flat ws, _, rfl, ?_⟩
      show if (!inV (.str z) (ws.map V.str)) = true then _ else _
      rw [str_inV]
      refine ite2 (fun c => ?_) (fun c => ?_)
      · exact raise_ (by simpa using c)
      · exact k1 (by simpa using c)
    | non => exact .inl ⟨t, _, rfl, .inr ht, rfl, all_flat ws, _, rfl, by
        show if (!inV .non (ws.map V.str)) = true then _ else _
        rw [flat_no (by intro w; rfl)]
        exact iteT (raise_ rfl)⟩
    | bl b => exact .inl ⟨t, _, rfl, .inr ht, rfl, all_flat ws, _, rfl, by
        show if (!inV (.bl b) (ws.map V.str)) = true then _ else _
        rw [flat_no (by intro w; rfl)]
        exact iteT (raise_ rfl)⟩
    | int i => exact .inl ⟨t, _, rfl, .inr ht, rfl, all_flat ws, _, rfl, by
        show if (!inV (.int i) (ws.map V.str)) = true then _ else _
        rw [flat_no (by intro w; rfl)]
        exact iteT (raise_ rfl)⟩
    | lst h1 h2 => exact .inr ⟨_, t, _, _, rfl, h1, rfl, ht, fun z hz => by obtain ⟨w, _, rfl⟩ := List.mem_map.mp hz; exact ⟨w, rfl⟩, _, rfl, iteT (raise_ rfl)⟩
    | tup h1 h2 => exact absurd rfl (nt _)
end
end Own

namespace Own
open PySem L2 PySem.HandSPX
theorem dpAll_get2 {K : PySem.W.Frag} {H : Hp} : ∀ {xs : List V} {ds : List PyData} {i : Nat} {x : V}, DpAll K H xs ds → xs[i]? = some x → ∃ d, ds[i]? = some d ∧ Dp K H x d
  | _, _, _, _, .nil, h => by cases h
  | _, _, 0, _, .cons h t, e => by cases e; exact ⟨_, rfl, h⟩
  | _, _, i + 1, _, .cons h t, e => dpAll_get2 (i := i) t e
theorem firstBad_at {ds : List PyData} {lo hi : Int} {i : Nat} {d : PyData} (hi' : ds[i]? = some d) (hp : ∀ (j : Nat) (d' : PyData), j < i → ds[j]? = some d' → numB d' lo hi = true) (hb : numB d lo hi = false) : firstBad ds lo hi = some d := by
  unfold firstBad
  induction ds generalizing i with
  | nil => cases hi'
  | cons e r ih =>
    cases i with
    | zero =>
      cases hi'
      rw [List.find?_cons_of_pos (by rw [hb]; rfl)]
    | succ i =>
      have h0 := hp 0 e (Nat.succ_pos _) rfl
      rw [List.find?_cons_of_neg (by rw [h0]; simp)]
      exact ih hi' fun j d' hj e' => hp (j + 1) d' (Nat.succ_lt_succ hj) e'
theorem firstBad_none {ds : List PyData} {lo hi : Int} (hp : ∀ (j : Nat) (d' : PyData), ds[j]? = some d' → numB d' lo hi = true) : firstBad ds lo hi = none := by
  unfold firstBad
  rw [List.find?_eq_none]
  intro d hd
  obtain ⟨j, hj⟩ := List.getElem?_of_mem hd
  rw [hp j d hj]
  simp
section
variable {P : Program} {w : World} {K : PySem.W.Frag} {mg : Str → Option Value} {base : Heap}
theorem ok_ckR {f fN cC cN : Addr} {fd fdN : FuncData} {tk : Tok} (F : Fun K "check_rooms" "check_rooms" sCkRooms f fd) (GN : FnOk P w K mg base (L2.CX P w) 6 fN fdN ["value", "least", "most"] (spCkN K cN)) (mN : mg "check_number" = some (.ref fN)) (kN : PySem.W.keepIn K (.ref fN) = true) (bN : Binds K fdN ["value", "least", "most"] []) (zL : mg "len" = none) (mB : mg "MOST_BELTS" = some (.int 3 tk))
    (c : ErrC P w K mg base "WrongCount" "given" cC) : FnOk P w K mg base (L2.CX P w) 7 f fd ["rooms", "most"] (spCkR K cC cN) := by
  refine F.okX scCkRooms (fun vs H Q E h => ?_) (fun cdv A outer s H vs Q E hr h => ?_)
  · obtain ⟨t, xs, ds, most, rfl, _⟩ := h
    rfl
  · obtain ⟨t, xs, ds, most, rfl, ht, hd, hs, k1, k2⟩ := h
    refine ⟨_, pss_cons (ps_if (pt_not (pt_chain op_le op_le pe_int (pe_callB call_len_seq (by rfl) zL PySem.boot_len (pa_cons (pv 0) pa_nil)) (pe_glob (v := .int 3) (by rfl) mB ⟨_, rfl⟩)))
        (pss_one (ps_raise rfl (takes_of rfl rfl rfl rfl) (pmk_err c (hr.mono (by decide)) (by rfl) (pa_cons (pe_callB call_len_seq (by rfl) zL PySem.boot_len (pa_cons (pv 0) pa_nil)) pa_nil) (fun σ H R R' f ⟨x, h, p, ys, h1, h2, q⟩ => ⟨x, h, p, ys, h1, h2, f _ _ q⟩)))) pss_nil)
      (pss_one (ps_for (passes_of rfl) rfl (pi_tup (pv 0)) (pg_name (i := 2) scCkRooms.nd rfl (Or.inl rfl)) (pss_one (ps_expr (pe_call GN hr rfl mN kN bN .nil (passes_call (takes_of rfl rfl rfl rfl) (fun _ _ _ _ h => h)) (pa_cons (pv 2) (pa_cons pe_int (pa_cons (pv 1) pa_nil)))))))), ?_⟩
    refine ⟨_, rfl, t, _, rfl, .inr ht, _, _, rfl, rfl, _, rfl, ite2 (fun c1 => ⟨_, _, rfl, rfl, _, rfl, ite2 (fun c2 => ?_) (fun c2 => ?_)⟩) (fun c1 => ?_)⟩
    · have c2' : ¬ ((xs.length : Int) ≤ 3) := by simpa using c2
      have hb : ¬ (1 ≤ xs.length ∧ xs.length ≤ 3) := by omega
      exact ⟨_, rfl, t, xs, rfl, .inr ht, _, _, rfl, .int _, .int _, k1 hb⟩
    · have c1' : (1 : Int) ≤ xs.length := of_decide_eq_true c1
      have c2' : (xs.length : Int) ≤ 3 := by simpa using c2
      obtain ⟨k3, k4⟩ := k2 (by omega)
      refine ⟨_, rfl, t, rfl, ⟨_, ht⟩, for_tup (K := K) (a := t) (xs := xs) (fun i σ H' => ∃ v : Option V, σ = [some (.ref t), some (.int most), v] ∧ H' = H ∧ ∀ (j : Nat) (d' : PyData), j < i → ds[j]? = some d' → numB d' 1 most = true) ⟨_, rfl, rfl, fun j d' hj => absurd hj (Nat.not_lt_zero _)⟩ ?_ ?_ ?_⟩
      · rintro i σ H' _ ⟨v, rfl, rfl, _⟩
        exact ht
      · rintro i y σ H' hi ⟨v, rfl, rfl, hp⟩
        obtain ⟨d, hdi, hdy⟩ := dpAll_get2 hd hi
        refine ⟨_, rfl, _, rfl, y, d, 1, most, rfl, hdy, hs d (List.mem_of_getElem? hdi), fun hb => ⟨_, rfl, rfl, fun j d' hj hd' => ?_⟩, fun hb dd H' eo => k3 d (firstBad_at hdi hp hb) dd H' eo⟩
        rcases Nat.lt_succ_iff_lt_or_eq.mp hj with hj | rfl
        · exact hp j d' hj hd'
        · rw [hdi] at hd'
          cases hd'
          exact hb
      · rintro σ H' ⟨v, rfl, rfl, hp⟩
        exact k4 (firstBad_none fun j d' hj => by
          refine hp j d' ?_ hj
          have hlen := dpAll_len _ _ hd
          have := (List.getElem?_eq_some_iff.mp hj).1
          omega)
    · have c1' : ¬ ((1 : Int) ≤ xs.length) := by simpa using c1
      have hb : ¬ (1 ≤ xs.length ∧ xs.length ≤ 3) := by omega
      exact ⟨false, rfl, iteT ⟨_, rfl, t, xs, rfl, .inr ht, _, _, rfl, .int _, .int _, k1 hb⟩⟩
end
end Own

/-! law-independent: a for over a list or a tuple; t[i:] and t.index of a tuple of the program's own; sorted(t) -/
namespace Own
open PySem PySem.Spec PyProof.Rows L2 PySem.HandSPX
def iOr (a b : TI) : TI := fun σ H R => a σ H R ∨ b σ H R
theorem pi_or {X : Cx} {tg e : Expr} {a b : TI} (ha : PI X tg e a) (hb : PI X tg e b) : PI X tg e (iOr a b) :=
  ⟨fun pins s σ H R I h => h.elim (fun q => ha.run pins s σ H R I q) fun q => hb.run pins s σ H R I q⟩
/-- a list or a tuple -/
def Sq (K : PySem.W.Frag) (H : Hp) (a : Addr) (xs : List V) : Prop := SqL K H a xs ∨ SqT K H a xs
theorem sq_seqs {K : PySem.W.Frag} {H H' : Hp} {a : Addr} {xs : List V} (e : Seqs H H') (h : Sq K H a xs) : Sq K H' a xs := h.elim (fun q => .inl (seqs_l e q)) fun q => .inr (seqs_t e q)
def iSq (K : PySem.W.Frag) (t : TE) : TI := iOr (iList K t) (iTup K t)
theorem pi_sq {X : Cx} {tg e : Expr} {t : TE} (h : PE X e t) : PI X tg e (iSq X.K t) := pi_or (pi_list h) (pi_tup h)
theorem for_sq {K : PySem.W.Frag} {k : Nat} {a : Addr} {xs : List V} {g : TG} {tb : TS} {D : Ends} {σ : L2.St} {H0 H : Hp} (hv : σ[k]? = some (some (.ref a))) (hq : Sq K H0 a xs) (e0 : Seqs H0 H) (Pv : Nat → L2.St → Hp → Prop) (h0 : Pv 0 σ H)
    (kp : ∀ i σ' H', i ≤ xs.length → Pv i σ' H' → Seqs H0 H') (hs : ∀ i x σ H, xs[i]? = some x → Pv i σ H → g x σ H fun σ2 H2 => tb { D with nx := Pv (i + 1), ct := Pv (i + 1), bk := D.nx } σ2 H2) (hd : ∀ σ H, Pv xs.length σ H → D.nx σ H) :
    tFor (iSq K (tVar k)) g tb D σ H := by
  rcases hq with hq | hq
  · exact .inl ⟨_, hv, a, rfl, ⟨xs, seqs_l e0 hq⟩, for_list Pv h0 (fun i σ' H' hi p => seqs_l (kp i σ' H' hi p) hq) hs hd⟩
  · exact .inr ⟨_, hv, a, rfl, ⟨xs, seqs_t e0 hq⟩, for_tup Pv h0 (fun i σ' H' hi p => seqs_t (kp i σ' H' hi p) hq) hs hd⟩
/-! ### tuples of one's own, known to hold no dict -/
def tyTup (K : PySem.W.Frag) (x : V) (H : Hp) : Prop := ∃ p, x = .ref p ∧ ((∃ o, K.lookup p = some o ∧ o.cls = .type "tuple" ∧ o.dict = none) ∨ ∃ ob u, H p = some (.frz ob u) ∧ ob.cls = .type "tuple" ∧ ob.dict = none)
theorem ty_tup {X : Cx} : TyOk X "tuple" (tyTup X.K) := by
  intro pins σ H s x v I r ty
  obtain ⟨p, rfl, ⟨o, hk, hc, hd⟩ | ⟨ob, u, hk, hc, hd⟩⟩ := ty
  · cases r
    refine ⟨⟨o, I.kIn p o hk, hc⟩, fun a e => ?_⟩
    cases e
    exact ⟨o, I.kIn _ o hk, hd⟩
  · cases r
    have e1 : s.heap.get? p = some ob := (I.hok p _ hk).1
    refine ⟨⟨ob, e1, hc⟩, fun a e => ?_⟩
    cases e
    exact ⟨ob, e1, hd⟩
/-- t[lo:hi], not the whole; the new one holds no dict -/
def rSlF (K : PySem.W.Frag) : V → Option Int → Option Int → Hp → VK → Prop := fun x lo hi H Q => ∃ a xs, x = .ref a ∧ SqT K H a xs ∧
  ¬ (HT.sIx xs.length 0 lo = 0 ∧ HT.sIx xs.length xs.length hi = xs.length) ∧ ∀ p ob, H p = none → ob.cls = .type "tuple" → ob.dict = none → Q (.ref p) (upd H p (.frz ob (.tup (cutV xs lo hi))))
theorem sl_tupF {X : Cx} : SlR X (rSlF X.K) := by
  intro pins s σ H x v vl vu lo hi sl Q I rx hs pl pu h
  obtain ⟨a, xs, rfl, hx, hw, q⟩ := h
  cases rx
  obtain ⟨its, r, ht, hz⟩ := I.tuple hx
  have hlen : its.toArray.size = xs.length := by rw [List.size_toArray]; exact r.length.symm
  refine ⟨"tuple", _, PyProof.Rows.slot_tuple_getitem.lookup, ht.typeIs, ?_⟩
  refine HT.getItem_tuple_cut ht hs pl pu (by rw [hlen]; exact hw) ?_ (by rw [hlen]; exact hz)
  rw [hlen]
  refine ⟨.ref s.heap.objs.size, _, I.laid (t' := s.toks) (o := .frz _ (.tup (cutV xs lo hi))) (fun b ob q => Heap.get?_push_of_some _ q) (Nat.le_refl _) ⟨Heap.get?_push_size _ rfl, ?_⟩, rfl, q _ _ (I.hok.fresh (Nat.le_refl _)) rfl rfl⟩
  exact ⟨Nat.le_trans (cutV_length xs lo hi) hz, _, (r.drop (HT.sIx xs.length 0 lo)).take (HT.sIx xs.length xs.length hi - HT.sIx xs.length 0 lo), IsTup.new _ _⟩
theorem cut_tail (xs : List V) (j : Nat) (hj : j < xs.length) : cutV xs (some ((j : Int) + 1)) none = xs.drop (j + 1) ∧ ¬ (HT.sIx xs.length 0 (some ((j : Int) + 1)) = 0 ∧ HT.sIx xs.length xs.length none = xs.length) := by
  have e : HT.sIx xs.length 0 (some ((j : Int) + 1)) = j + 1 := by
    have := HT.sIx_nat xs.length 0 (j + 1)
    rw [show (((j + 1 : Nat)) : Int) = (j : Int) + 1 by omega] at this
    rw [this]
    omega
  refine ⟨?_, by rw [e]; omega⟩
  unfold cutV
  rw [e, HT.sIx_none]
  refine List.take_of_length_le ?_
  rw [List.length_drop]
  omega
/-! ### sorted of a tuple of ints -/
section
variable {prog : Program} {w : World} {A : Around} {E : Value → Shared → Prop} {s : Shared}
theorem collect_tupN {l : Addr} {vs : List Value} {Q : List Value → Shared → Prop} (hl : IsTup s.heap l vs.toArray)
    (h : Q vs { s with heap := (s.heap.push (seqObj "list" #[] 0)).update s.heap.objs.size (Obj.mapSeq (· ++ vs.toArray)) }) (hsz : vs.length ≤ sizeLine) :
    wpAny (model prog w) A (collect (.ref l)) Q E s := by
  obtain ⟨o, ho, hc, n, hd⟩ := id hl
  have h0 : (s.heap.push (seqObj "list" #[] 0)).get? s.heap.objs.size = some (seqObj "list" #[] 0) := Heap.get?_push_size _ rfl
  have h1 : (s.heap.push (seqObj "list" #[] 0)).get? l = some o := Heap.get?_push_of_some _ ho
  unfold collect
  refine wpAny_bind (wpAny_runValue (codeAny_builtin entry_proto_collect' ?_))
  refine wpAny_bind (wpAny_newList (wpAny_pure ⟨Code.quiet_builtin _ (by decide +kernel), codeAny_builtin entry_list_iadd' ?_⟩))
  show wpAny _ _ (Builtin.List.listExtendWith (.ref s.heap.objs.size) (.ref l) (.ref s.heap.objs.size)) _ _ { s with heap := s.heap.push (seqObj "list" #[] 0) }
  unfold Builtin.List.listExtendWith
  refine wpAny_bind (wpAny_typeOf (T := "tuple") ⟨o, h1, hc⟩ ?_)
  have ht : (Value.type "tuple" == Value.type "tuple") = true := by rfl
  rw [if_pos (by rw [ht]; simp)]
  refine wpAny_bind (listItems_at h1 hd ?_)
  refine wpAny_bind (listItems_at (xs := #[]) (n := 0) h0 rfl ?_)
  rw [if_neg (by simp)]
  refine wpAny_bind (listUpdate_at (xs := #[]) (n := 0) h0 rfl ?_ (Nat.zero_le _) (by show (#[] ++ vs.toArray).size ≤ sizeLine + 1; simp only [Array.size_append, List.size_toArray, List.length_nil]; omega))
  refine wpAny_pure ?_
  refine wpAny_bind (wpAny_load (get?_update_seq h0 _) ?_)
  show wpAny _ _ (pure ((#[] : Array Value) ++ vs.toArray).toList) Q E _
  rw [show ((#[] : Array Value) ++ vs.toArray).toList = vs by simp]
  exact wpAny_pure h
end
end Own

namespace Own
open PySem PySem.Spec PyProof.Rows L2 PySem.HandSPX SrtO
section
variable {prog : Program} {w : World} {A : Around} {E : Value → Shared → Prop} {s : Shared}
theorem sorted_tupI {l : Addr} {vs : List Value} {ns : List Int} {Q : Value → Shared → Prop} (hl : IsTup s.heap l vs.toArray) (hz : vs.length ≤ sizeLine) (hi : IntsAre vs ns)
    (h : ∀ out : List Value, Srtd ltIv out → Stb ltIv out vs → Q (.ref (s.heap.objs.size + 1)) { s with heap := sortedAll s.heap vs out.toArray }) :
    wpAny (model prog w) A (call (.builtin "sorted") [.ref l]) Q E s := by
  refine Calls.call_function_entry kind_sorted plain_sorted entry_sorted (args_sorted1 _) ?_
  unfold Builtin.«sorted»
  refine wpAny_bind (m := checkCount "sorted" 1 1 _) (wpAny_pure ?_)
  refine wpAny_bind (collect_tupN hl ?_ hz)
  refine wpAny_bind (wpAny_newList ?_ hz)
  have e1 : ((s.heap.push (seqObj "list" #[] 0)).update s.heap.objs.size (Obj.mapSeq (· ++ vs.toArray))).objs.size = s.heap.objs.size + 1 := by
    rw [Heap.size_update, size_push']
  have e2 : (((s.heap.push (seqObj "list" #[] 0)).update s.heap.objs.size (Obj.mapSeq (· ++ vs.toArray))).push (seqObj "list" vs.toArray 0)).get? (s.heap.objs.size + 1) = some (seqObj "list" vs.toArray 0) := by
    rw [← e1]; exact Heap.get?_push_size _ rfl
  show wpAny _ _ _ _ _ { s with heap := ((s.heap.push (seqObj "list" #[] 0)).update s.heap.objs.size (Obj.mapSeq (· ++ vs.toArray))).push (seqObj "list" vs.toArray 0) }
  rw [e1]
  refine wpAny_bind (wpAny_holding (wpAny_call_entry slot_list_sort ⟨_, e2, rfl⟩ entry_list_sort (list_sort_ord swo_int e2 hz (fun h2 => ints_sortable hi h2) fun out hs hb => ⟨_, rfl, ?_⟩) (args_list_sort _)))
  exact wpAny_pure ⟨_, rfl, h out hs hb⟩
end
/-- sorted(t), t a tuple of ints -/
def rSortedIT (K : PySem.W.Frag) : List V → Hp → VK → Prop := fun vs H Q => ∃ (a : Addr) (ns : List Int), vs = [V.ref a] ∧ SqT K H a (ns.map V.int) ∧
  ∀ (ns' : List Int) (p : Addr), ns'.Perm ns → ns'.Pairwise (· ≤ ·) → H p = none → Q (.ref p) (upd H p (.lst (ns'.map V.int)))
theorem cr_sortedIT {X : Cx} : CallR X (.builtin "sorted") (rSortedIT X.K) := by
  intro pins s σ H vs us Q I r h
  obtain ⟨a, ns, rfl, hs, q⟩ := h
  obtain ⟨its, rv, hl, hz⟩ := I.tuple hs
  rw [Vals.ref1 r]
  have hi := rv.ints
  refine sorted_tupI hl (by rw [← rv.length]; exact hz) hi fun out h1 h2 => ?_
  obtain ⟨k1, k2, k3⟩ := ints_out hi h1 h2
  obtain ⟨ep, he'⟩ := PyProof.Rows.sortedAll_at s.heap its out.toArray
  have hlen : ((out.map iv).map V.int).length ≤ sizeLine := by
    rw [List.length_map, k2.length_eq]
    rw [List.length_map] at hz
    exact hz
  exact ⟨.ref _, upd H (s.heap.objs.size + 1) (.lst ((out.map iv).map V.int)), I.laid (t' := s.toks) (fun _ _ => PyProof.Rows.sortedAll_old) (Nat.le_succ _) ⟨hlen, out, ep, vals_of_ints k1, he'⟩, rfl, q _ _ k2 k3 (I.hok.fresh (Nat.le_succ _))⟩
def CallR.or {X : Cx} {f : Value} {r r' : List V → Hp → VK → Prop} (a : CallR X f r) (b : CallR X f r') : CallR X f fun vs H Q => r vs H Q ∨ r' vs H Q :=
  fun pins s σ H vs us Q I rv h => h.elim (fun q => a pins s σ H vs us Q I rv q) fun q => b pins s σ H vs us Q I rv q
end Own

namespace Own
open PySem L2 PySem.HandSPX
/-! ### check_scans -/
abbrev sScans : Stmt := topT 26
abbrev sSlips : Stmt := topT 27
abbrev sSlipW : Stmt := topT 28
abbrev sStretch : Stmt := topT 29
def dInt : PyData → Int
  | .int n => n
  | _ => 0
def scanOk (hi : Int) (seen : List Int) (d : PyData) : Bool := numB d 1 hi && !inV (.int (dInt d)) (seen.map V.int)
/-- the first scan that is refused -/
def badScan (hi : Int) : List Int → List PyData → Option PyData
  | _, [] => none
  | seen, d :: r => if scanOk hi seen d = true then badScan hi (seen ++ [dInt d]) r else some d
theorem badScan_cons (hi : Int) (seen : List Int) (d : PyData) (r : List PyData) : badScan hi seen (d :: r) = if scanOk hi seen d = true then badScan hi (seen ++ [dInt d]) r else some d := rfl
def spCkS (K : PySem.W.Frag) (cP : Addr) : Sp := fun vs H Q E => ∃ (a : Addr) (xs : List V) (ds : List PyData) (last : Int), vs = [.ref a, .int last] ∧ Sq K H a xs ∧ DpAll K H xs ds ∧ (∀ d ∈ ds, Shal 2 d) ∧ xs.length ≤ sizeLine ∧
  (badScan (last - 1) [] ds = none → ∀ H', Same H H' → Q .non H') ∧
  (∀ d, badScan (last - 1) [] ds = some d → ∀ dd H', ErrOut K H H' dd "InvalidPoint" "given" d → E (.ref cP) (some dd) H')
theorem drop_at {α : Type} {l : List α} {i : Nat} {x : α} (h : l[i]? = some x) : l.drop i = x :: l.drop (i + 1) := by
  obtain ⟨hi, rfl⟩ := List.getElem?_eq_some_iff.mp h
  exact List.drop_eq_getElem_cons hi
theorem numB_int {d : PyData} {lo hi : Int} (h : numB d lo hi = true) : ∃ n, d = .int n := by
  cases d <;> first | exact ⟨_, rfl⟩ | cases h
theorem flat_ints (ns : List Int) : (ns.map V.int).all flatV = true := by
  rw [List.all_map]
  exact List.all_eq_true.mpr fun _ _ => rfl
section
variable {P : Program} {w : World} {K : PySem.W.Frag} {mg : Str → Option Value} {base : Heap}
theorem scScans : FnScope ["scans", "last", "seen", "point"] ["scans", "last"] (defScope sScans) := ⟨rfl, rfl, rfl, by decide +kernel, rfl, by decide +kernel, by decide +kernel⟩
theorem ok_ckS {f fN cP : Addr} {fd fdN : FuncData} (F : Fun K "check_scans" "check_scans" sScans f fd) (GN : FnOk P w K mg base CX0 1 fN fdN ["value", "least", "most"] (spNumD K)) (mN : mg "is_number" = some (.ref fN)) (kN : PySem.W.keepIn K (.ref fN) = true) (bN : Binds K fdN ["value", "least", "most"] [])
    (c : ErrC P w K mg base "InvalidPoint" "given" cP) : FnOk P w K mg base (L2.CX P w) 6 f fd ["scans", "last"] (spCkS K cP) := by
  refine F.okX scScans (fun vs H Q E h => ?_) (fun cdv A outer s H vs Q E hr h => ?_)
  · obtain ⟨a, xs, ds, last, rfl, _⟩ := h
    rfl
  · obtain ⟨a, xs, ds, last, rfl, hq, hd, hs, hz, k1, k2⟩ := h
    refine ⟨_, pss_cons (ps_set (i := 2) scScans.nd rfl (Or.inl rfl) (pe_lst pa_nil))
      (pss_one (ps_for (passes_of rfl) rfl (pi_sq (pv 0)) (pg_name (i := 3) scScans.nd rfl (Or.inl rfl))
        (pss_cons (ps_if (PW.pt (pw_or (pt_not (pt_val (pe_call GN (hr.mono (by decide)) rfl mN kN bN .nil pass0 (pa_cons (pv 3) (pa_cons pe_int (pa_cons (pe_sub (pv 1) pe_int) pa_nil)))))) (pw_or1 (pt_cmpR op_in_seq (pv 3) (pv 2) (by rfl)))))
          (pss_one (ps_raise rfl (takes_of rfl rfl rfl rfl) (pmk_err c hr (by rfl) (pa_cons (pv 3) pa_nil) (fun σ H R R' f ⟨x, h, q⟩ => ⟨x, h, f _ _ q⟩)))) pss_nil)
        (pss_one (ps_expr (pe_bm PySem.F.plainAttrs_list PySem.F.slot_list_append PySem.F.type_list_append mt_append (pv 2) (pa_cons (pv 3) pa_nil))))))), ?_⟩
    refine ⟨Nat.zero_le _, fun S hS => ?_⟩
    have sm : ∀ ns : List V, Same H (upd H S (.lst ns)) := fun ns b o e => by rw [upd_ne (ne_of_none e hS)]; exact e
    refine for_sq (K := K) (a := a) (xs := xs) (H0 := H) rfl hq (Seqs.of (sm [])) (fun i σ H' => ∃ (v : Option V) (ns : List Int), σ = [some (.ref a), some (.int last), some (.ref S), v] ∧ H' = upd H S (.lst (ns.map V.int)) ∧ ns.length = i ∧ badScan (last - 1) [] ds = badScan (last - 1) ns (ds.drop i)) ⟨_, [], rfl, rfl, rfl, rfl⟩ ?_ ?_ ?_
    · rintro i σ H' _ ⟨v, ns, rfl, rfl, _⟩
      exact Seqs.of (sm _)
    · rintro i y σ H' hi ⟨v, ns, rfl, rfl, hl, hb⟩
      obtain ⟨d, hdi, hdy⟩ := dpAll_get2 hd hi
      have hdy' : Dp K (upd H S (.lst (ns.map V.int))) y d := dp_same (sm _) _ _ hdy
      rw [drop_at hdi] at hb
      have bad : scanOk (last - 1) ns d = false → tErr K cP "InvalidPoint" "given" (tCons (tVar 3) tNil) [some (.ref a), some (.int last), some (.ref S), some y] (upd H S (.lst (ns.map V.int))) (fun cls d H' => E cls d H') := fun hn => by
        refine ⟨_, rfl, y, d, rfl, hdy', hs d (List.mem_of_getElem? hdi), fun dd H' eo => k2 d ?_ dd H' (eo.pre (sm _))⟩
        rw [hb]
        unfold badScan
        rw [hn]
        rfl
      refine ⟨_, rfl, _, rfl, _, _, rfl, rfl, y, d, 1, last - 1, rfl, hdy', _, rfl, ite2 (fun c1 => ?_) (fun c1 => ?_)⟩
      · refine iteT (bad ?_)
        unfold scanOk
        rw [show numB d 1 (last - 1) = false by simpa using c1]
        rfl
      · have c1' : numB d 1 (last - 1) = true := by simpa using c1
        obtain ⟨n, rfl⟩ := numB_int c1'
        cases hdy
        refine ⟨_, rfl, _, rfl, S, ns.map V.int, rfl, .inl (SqL.of upd_same), rfl, flat_ints ns, _, rfl, ite2 (fun c2 => ?_) (fun c2 => ?_)⟩
        · refine bad ?_
          unfold scanOk
          rw [c1', show inV (.int (dInt (.int n))) (ns.map V.int) = true from c2]
          rfl
        · have c2' : inV (.int n) (ns.map V.int) = false := by simpa using c2
          have hlt : i < xs.length := (List.getElem?_eq_some_iff.mp hi).1
          refine ⟨_, rfl, .inl ⟨rfl, _, SqL.of upd_same⟩, _, rfl, S, ns.map V.int, _, rfl, rfl, upd_same, by rw [List.length_map]; omega, ?_⟩
          refine ⟨_, ns ++ [n], rfl, ?_, by rw [List.length_append, hl]; rfl, ?_⟩
          · rw [upd_upd, List.map_append]
            rfl
          · rw [hb]
            show badScan (last - 1) ns (.int n :: _) = _
            rw [badScan_cons, if_pos (show scanOk (last - 1) ns (.int n) = true by unfold scanOk; rw [c1', show inV (.int (dInt (.int n))) (ns.map V.int) = false from c2']; rfl)]
            rfl
    · rintro σ H' ⟨v, ns, rfl, rfl, hl, hb⟩
      refine k1 ?_ _ (sm _)
      rw [hb, List.drop_of_length_le (by rw [dpAll_len _ _ hd]; exact Nat.le_refl _)]
      unfold badScan
      rfl
end
end Own

namespace Own
open PySem L2 PySem.HandSPX
/-! ### check_slips -/
def slipsOk : PyData → Bool
  | .tuple [x, y] => numB x 0 3 && numB y 1 6
  | _ => false
def spCkP (K : PySem.W.Frag) (cN : Addr) : Sp := fun vs H Q E => ∃ (v : V) (d : PyData), vs = [v] ∧ Dp K H v d ∧ Shal 2 d ∧ (slipsOk d = true → Q .non H) ∧ (slipsOk d = false → ∀ dd H', ErrOut K H H' dd "InvalidNumber" "given" d → E (.ref cN) (some dd) H')
section
variable {P : Program} {w : World} {K : PySem.W.Frag} {mg : Str → Option Value} {base : Heap}
theorem scSlips : FnScope ["slips"] ["slips"] (defScope sSlips) := ⟨rfl, rfl, rfl, by decide +kernel, rfl, by decide +kernel, by decide +kernel⟩
theorem ok_ckP {f fN cN : Addr} {fd fdN : FuncData} {t1 t2 : Tok} (F : Fun K "check_slips" "check_slips" sSlips f fd) (GN : FnOk P w K mg base CX0 1 fN fdN ["value", "least", "most"] (spNumD K)) (mN : mg "is_number" = some (.ref fN)) (kN : PySem.W.keepIn K (.ref fN) = true) (bN : Binds K fdN ["value", "least", "most"] [])
    (zI : mg "isinstance" = none) (zT : mg "tuple" = none) (zL : mg "len" = none) (mS : mg "MOST_SLIPS" = some (.int 3 t1)) (mA : mg "MOST_AMONG" = some (.int 6 t2))
    (c : ErrC P w K mg base "InvalidNumber" "given" cN) : FnOk P w K mg base (L2.CX P w) 6 f fd ["slips"] (spCkP K cN) := by
  refine F.okX scSlips (fun vs H Q E h => ?_) (fun cdv A outer s H vs Q E hr h => ?_)
  · obtain ⟨v, d, rfl, _⟩ := h
    rfl
  · obtain ⟨v, d, rfl, hd, hs, k1, k2⟩ := h
    refine ⟨_, pss_cons (ps_if (PW.pt (pw_or (pt_not (pt_val (pe_callB call_isi (by rfl) zI (by decide +kernel) (pa_cons (pv 0) (pa_cons (pe_bltn (v := .ty "tuple") (by rfl) zT (by decide +kernel) rfl) pa_nil))))) (pw_or1 (pt_cmpR op_ne (pe_callB call_len_seq (by rfl) zL PySem.boot_len (pa_cons (pv 0) pa_nil)) pe_int (by rfl)))))
        (pss_one (ps_raise rfl (takes_of rfl rfl rfl rfl) (pmk_err c hr (by rfl) (pa_cons (pv 0) pa_nil) (fun σ H R R' f ⟨x, h, q⟩ => ⟨x, h, f _ _ q⟩)))) pss_nil)
      (pss_one (ps_if (PW.pt (pw_or (pt_not (pt_val (pe_call GN (hr.mono (by decide)) rfl mN kN bN .nil pass0 (pa_cons (pe_ix ix_tup (pv 0) pe_int (fun _ _ => rfl)) (pa_cons pe_int (pa_cons (pe_glob (v := .int 3) (by rfl) mS ⟨_, rfl⟩) pa_nil))))))
          (pw_or1 (pt_not (pt_val (pe_call GN (hr.mono (by decide)) rfl mN kN bN .nil pass0 (pa_cons (pe_ix ix_tup (pv 0) pe_int (fun _ _ => rfl)) (pa_cons pe_int (pa_cons (pe_glob (v := .int 6) (by rfl) mA ⟨_, rfl⟩) pa_nil)))))))))
        (pss_one (ps_raise rfl (takes_of rfl rfl rfl rfl) (pmk_err c hr (by rfl) (pa_cons (pv 0) pa_nil) (fun σ H R R' f ⟨x, h, q⟩ => ⟨x, h, f _ _ q⟩)))) pss_nil)), ?_⟩
    have bad : slipsOk d = false → tErr K cN "InvalidNumber" "given" (tCons (tVar 0) tNil) (start ["slips"] [v]) H (fun cls d H' => E cls d H') := fun hn => ⟨_, rfl, v, d, rfl, hd, hs, fun dd H' eo => k2 hn dd H' eo⟩
    cases hd with
    | non => exact ⟨_, rfl, _, _, .type "NoneType", .type "tuple", false, rfl, .ty _, .base .non, kit_ty (by decide +kernel), false, rfl, iteT (iteT (bad rfl))⟩
    | bl b => exact ⟨_, rfl, _, _, .type "bool", .type "tuple", false, rfl, .ty _, .base (.bl b), kit_ty (by decide +kernel), false, rfl, iteT (iteT (bad rfl))⟩
    | int n => exact ⟨_, rfl, _, _, .type "int", .type "tuple", false, rfl, .ty _, .base (.int n), kit_ty (by decide +kernel), false, rfl, iteT (iteT (bad rfl))⟩
    | str z => exact ⟨_, rfl, _, _, .type "str", .type "tuple", false, rfl, .ty _, .base (.str z), kit_ty (by decide +kernel), false, rfl, iteT (iteT (bad rfl))⟩
    | lst h1 h2 => exact ⟨_, rfl, _, _, .type "list", .type "tuple", false, rfl, .ty _, sqL_ty h1, kit_ty (by decide +kernel), false, rfl, iteT (iteT (bad rfl))⟩
    | @tup a xs ds h1 h2 =>
      have hlen := dpAll_len _ _ h2
      refine ⟨_, rfl, _, _, .type "tuple", .type "tuple", true, rfl, .ty _, sqT_ty h1, kit_ty (by decide +kernel), true, rfl, iteF ?_⟩
      refine ⟨_, rfl, a, xs, rfl, .inr h1, rfl, _, rfl, ite2 (fun c1 => ?_) (fun c1 => ?_)⟩
      · refine bad ?_
        match ds, hlen with
        | [], _ => rfl
        | [_], _ => rfl
        | _ :: _ :: _ :: _, _ => rfl
        | [_, _], hl =>
          rw [hl] at c1
          exact absurd c1 (by simp)
      · have e2 : xs.length = 2 := by
          have q : V.int (xs.length : Int) = V.int 2 := by simpa using c1
          have q' : (xs.length : Int) = 2 := V.int.inj q
          omega
        obtain ⟨x, y, rfl⟩ : ∃ x y, xs = [x, y] := match xs, e2 with | [x, y], _ => ⟨x, y, rfl⟩
        clear c1 e2 hlen
        obtain ⟨d1, d2, rfl, g1, g2⟩ : ∃ d1 d2, ds = [d1, d2] ∧ Dp K H x d1 ∧ Dp K H y d2 := by
          cases h2 with
          | cons g1 t =>
            cases t with
            | cons g2 t2 => cases t2; exact ⟨_, _, rfl, g1, g2⟩
        have a0 : atI [x, y] 0 = some x := rfl
        have a1 : atI [x, y] 1 = some y := rfl
        refine ⟨_, rfl, a, [x, y], 0, x, rfl, rfl, h1, a0, x, d1, 0, 3, rfl, g1, _, rfl, ite2 (fun c2 => ?_) (fun c2 => ?_)⟩
        · refine iteT (bad ?_)
          have q : numB d1 0 3 = false := by simpa using c2
          show (numB d1 0 3 && numB d2 1 6) = false
          rw [q]
          rfl
        · have q : numB d1 0 3 = true := by simpa using c2
          refine ⟨_, rfl, a, [x, y], 1, y, rfl, rfl, h1, a1, y, d2, 1, 6, rfl, g2, _, rfl, ite2 (fun c3 => ?_) (fun c3 => ?_)⟩
          · refine bad ?_
            have q3 : numB d2 1 6 = false := by simpa using c3
            show (numB d1 0 3 && numB d2 1 6) = false
            rw [q, q3]
            rfl
          · have q3 : numB d2 1 6 = true := by simpa using c3
            refine k1 ?_
            show (numB d1 0 3 && numB d2 1 6) = true
            rw [q, q3]
            rfl
end
end Own

namespace Own
open PySem L2 PySem.HandSPX
section
variable {P : Program} {w : World} {K : PySem.W.Frag} {mg : Str → Option Value} {base : Heap}
/-! ### check_stretch -/
def strOk : PyData → Bool
  | .none => true
  | d => numB d 1 12
def spCkT (K : PySem.W.Frag) (cN : Addr) : Sp := fun vs H Q E => ∃ (v : V) (d : PyData), vs = [v] ∧ Dp K H v d ∧ Shal 2 d ∧ (strOk d = true → Q .non H) ∧ (strOk d = false → ∀ dd H', ErrOut K H H' dd "InvalidNumber" "given" d → E (.ref cN) (some dd) H')
theorem scStretch : FnScope ["stretch"] ["stretch"] (defScope sStretch) := ⟨rfl, rfl, rfl, by decide +kernel, rfl, by decide +kernel, by decide +kernel⟩
theorem ok_ckT {f fN cN : Addr} {fd fdN : FuncData} {t1 : Tok} (F : Fun K "check_stretch" "check_stretch" sStretch f fd) (GN : FnOk P w K mg base (L2.CX P w) 6 fN fdN ["value", "least", "most"] (spCkN K cN)) (mN : mg "check_number" = some (.ref fN)) (kN : PySem.W.keepIn K (.ref fN) = true) (bN : Binds K fdN ["value", "least", "most"] [])
    (mS : mg "MOST_STRETCH" = some (.int 12 t1)) : FnOk P w K mg base (L2.CX P w) 7 f fd ["stretch"] (spCkT K cN) := by
  refine F.okX scStretch (fun vs H Q E h => ?_) (fun cdv A outer s H vs Q E hr h => ?_)
  · obtain ⟨v, d, rfl, _⟩ := h
    rfl
  · obtain ⟨v, d, rfl, hd, hs, k1, k2⟩ := h
    refine ⟨_, pss_one (ps_if (pt_cmp (pc_notN (pv 0))) (pss_one (ps_expr (pe_call GN hr rfl mN kN bN .nil (passes_call (takes_of rfl rfl rfl rfl) (fun _ _ _ _ h => h)) (pa_cons (pv 0) (pa_cons pe_int (pa_cons (pe_glob (v := .int 12) (by rfl) mS ⟨_, rfl⟩) pa_nil)))))) pss_nil), ?_⟩
    refine ⟨_, rfl, _, rfl, ?_⟩
    by_cases hn : d = .none
    · subst hn
      cases hd
      exact iteF (k1 rfl)
    · have e : strOk d = numB d 1 12 := by cases d <;> first | exact absurd rfl hn | rfl
      have hv : decide (v = .non) = false := decide_eq_false fun z => by
        subst z
        cases hd
        exact hn rfl
      rw [hv]
      exact iteT ⟨_, rfl, v, d, 1, 12, rfl, hd, hs, fun q => k1 (e.trans q), fun q => k2 (e.trans q)⟩
end
end Own

namespace Own
open PySem L2 PySem.HandSPX
/-! ### check_slip_words -/
def slipW : List Str := ["missed", "twice", "swapped"]
def afterW (z : Str) : List Str → List Str
  | [] => []
  | w :: r => if w = z then r else afterW z r
def tailW : PyData → List Str → List Str
  | .str z, ws => afterW z ws
  | _, ws => ws
/-- the first word that is refused -/
def badWord : List Str → List PyData → Option PyData
  | _, [] => none
  | ws, d :: r => if wordB d ws = true then badWord (tailW d ws) r else some d
theorem badWord_cons (ws : List Str) (d : PyData) (r : List PyData) : badWord ws (d :: r) = if wordB d ws = true then badWord (tailW d ws) r else some d := rfl
theorem after_at {z : Str} : ∀ {ws : List Str}, wordB (.str z) ws = true → ∃ j, j < ws.length ∧ ws[j]? = some z ∧ (∀ m, m < j → ws[m]? ≠ some z) ∧ ws.drop (j + 1) = afterW z ws
  | [], h => by cases h
  | w :: r, h => by
    unfold afterW
    by_cases e : w = z
    · rw [if_pos e]
      exact ⟨0, Nat.succ_pos _, by rw [e]; rfl, fun m hm => absurd hm (Nat.not_lt_zero _), rfl⟩
    · rw [if_neg e]
      have h' : wordB (.str z) r = true := by
        have q : ((w == z) || r.any fun w => w == z) = true := h
        have n : (w == z) = false := beq_false_of_ne e
        rw [n] at q
        exact q
      obtain ⟨j, h1, h2, h3, h4⟩ := after_at h'
      refine ⟨j + 1, Nat.succ_lt_succ h1, h2, fun m hm => ?_, h4⟩
      cases m with
      | zero => exact fun q => e (Option.some.inj q)
      | succ m => exact h3 m (Nat.lt_of_succ_lt_succ hm)
def spCkSW (K : PySem.W.Frag) (cW : Addr) : Sp := fun vs H Q E => ∃ (a : Addr) (xs : List V) (ds : List PyData), vs = [.ref a] ∧ Sq K H a xs ∧ DpAll K H xs ds ∧ (∀ d ∈ ds, Shal 2 d ∧ ∀ es, d ≠ .tuple es) ∧
  (badWord slipW ds = none → ∀ H', Same H H' → Q .non H') ∧
  (∀ d, badWord slipW ds = some d → ∀ dd H', ErrOut K H H' dd "InvalidWord" "given" d → E (.ref cW) (some dd) H')
/-- a tuple of the top that holds no dict -/
def KD (K : PySem.W.Frag) (a : Addr) : Prop := ∃ o, K.lookup a = some o ∧ o.cls = .type "tuple" ∧ o.dict = none
section
variable {P : Program} {w : World} {K : PySem.W.Frag} {mg : Str → Option Value} {base : Heap}
theorem scSlipW : FnScope ["words", "left", "word"] ["words"] (defScope sSlipW) := ⟨rfl, rfl, rfl, by decide +kernel, rfl, by decide +kernel, by decide +kernel⟩
theorem ok_ckSW {f fN cW tS : Addr} {fd fdN : FuncData} (F : Fun K "check_slip_words" "check_slip_words" sSlipW f fd) (GN : FnOk P w K mg base (L2.CX P w) 6 fN fdN ["value", "words"] (spCkW K cW)) (mN : mg "check_word" = some (.ref fN)) (kN : PySem.W.keepIn K (.ref fN) = true) (bN : Binds K fdN ["value", "words"] [])
    (mS : mg "SLIP_WORDS" = some (.ref tS)) (hS : KT K tS (slipW.map V.str)) (hD : KD K tS) : FnOk P w K mg base (L2.CX P w) 7 f fd ["words"] (spCkSW K cW) := by
  refine F.okX scSlipW (fun vs H Q E h => ?_) (fun cdv A outer s H vs Q E hr h => ?_)
  · obtain ⟨a, xs, ds, rfl, _⟩ := h
    rfl
  · obtain ⟨a, xs, ds, rfl, hq, hd, hs, k1, k2⟩ := h
    refine ⟨_, pss_cons (ps_set (i := 1) scSlipW.nd rfl (Or.inl rfl) (pe_glob (v := .ref tS) (by rfl) mS rfl))
      (pss_one (ps_for (passes_of rfl) rfl (pi_sq (pv 0)) (pg_name (i := 2) scSlipW.nd rfl (Or.inl rfl))
        (pss_cons (ps_expr (pe_call GN hr rfl mN kN bN .nil (passes_call (takes_of rfl rfl rfl rfl) (fun _ _ _ _ h => h)) (pa_cons (pv 2) (pa_cons (pv 1) pa_nil))))
        (pss_one (ps_set (i := 1) scSlipW.nd rfl (Or.inl rfl) (pe_slice sl_tupF (pv 1) (po_some (pe_add (pe_mG ty_tup PySem.F.plainAttrs_tuple PySem.F.slot_tuple_index PySem.F.type_tuple_index mt_tup_index (pv 1) (pa_cons (pv 2) pa_nil)) pe_int)) po_none)))))), ?_⟩
    refine for_sq (K := K) (a := a) (xs := xs) (H0 := H) rfl hq (Seqs.of (Same.refl _)) (fun i σ H' => ∃ (v : Option V) (p : Addr) (ws : List Str), σ = [some (.ref a), some (.ref p), v] ∧ Same H H' ∧ SqT K H' p (ws.map V.str) ∧ tyTup K (.ref p) H' ∧ badWord slipW ds = badWord ws (ds.drop i)) ⟨_, tS, slipW, rfl, Same.refl _, .inr hS, ⟨tS, rfl, .inl hD⟩, rfl⟩ ?_ ?_ ?_
    · rintro i σ H' _ ⟨v, p, ws, rfl, sm, _⟩
      exact Seqs.of sm
    · rintro i y σ H' hi ⟨v, p, ws, rfl, sm, hp, ht, hb⟩
      obtain ⟨d, hdi, hdy⟩ := dpAll_get2 hd hi
      have hdy' : Dp K H' y d := dp_same sm _ _ hdy
      rw [drop_at hdi, badWord_cons] at hb
      obtain ⟨q1, q2⟩ := hs d (List.mem_of_getElem? hdi)
      refine ⟨_, rfl, _, rfl, y, d, p, ws, rfl, hp, hdy', q1, q2, fun g => ?_, fun g dd H'' eo => k2 d (by rw [hb, if_neg (by rw [g]; exact Bool.false_ne_true)]) dd H'' (eo.pre sm)⟩
      rw [if_pos g] at hb
      obtain ⟨z, rfl⟩ : ∃ z, d = .str z := by cases d <;> first | exact ⟨_, rfl⟩ | cases g
      cases hdy
      obtain ⟨j, j1, j2, j3, j4⟩ := after_at g
      have hl : (ws.map V.str).length = ws.length := List.length_map _
      obtain ⟨e1, e2⟩ := cut_tail (ws.map V.str) j (by rw [hl]; exact j1)
      refine ⟨_, rfl, _, rfl, ht, _, rfl, p, ws, z, j, rfl, rfl, hp, j2, j3, _, _, rfl, rfl, _, rfl, p, _, rfl, hp, e2, fun p' ob np cb db => ?_⟩
      refine ⟨_, p', afterW z ws, rfl, sm.new np, ?_, ⟨p', rfl, .inr ⟨ob, _, upd_same, cb, db⟩⟩, hb⟩
      rw [e1, ← List.map_drop, j4]
      exact .inl (.inr ⟨ob, upd_same⟩)
    · rintro σ H' ⟨v, p, ws, rfl, sm, _, _, hb⟩
      refine k1 ?_ _ sm
      rw [hb, List.drop_of_length_le (by rw [dpAll_len _ _ hd]; exact Nat.le_refl _)]
      unfold badWord
      rfl
end
end Own

namespace Own
open PySem L2 ClX PySem.HandSPX
abbrev sLI : Stmt := inClass (topT 25) 1
def errN : Nat → Str
  | 0 => "WrongCount"
  | 1 => "InvalidNumber"
  | 2 => "InvalidWord"
  | _ => "InvalidPoint"
/-- what is wrong with these values of a line, first -/
def lnErr (n : Nat) (ds dS : List PyData) (dP : PyData) (dW : List PyData) (dT : PyData) : Option (Nat × PyData) :=
  if ¬ (1 ≤ n ∧ n ≤ 3) then some (0, .int n) else
  match firstBad ds 1 3 with
  | some d => some (1, d)
  | none => match badScan ((n : Int) - 1) [] dS with
    | some d => some (3, d)
    | none => if slipsOk dP = false then some (1, dP) else
      match badWord slipW dW with
      | some d => some (2, d)
      | none => if strOk dT = false then some (1, dT) else none
/-- the attributes of a line -/
def lnf (t tS : Addr) (vP : V) (tW : Addr) (vT : V) : List (Str × V) := putF "_stretch" vT (putF "_words" (.ref tW) (putF "_slips" vP (putF "_scans" (.ref tS) (putF "_belts" (.ref t) []))))
/-- Line.__init__, any values -/
def spLn (K : PySem.W.Frag) (C : Addr) (cA : Nat → Addr) : Sp := fun vs H Q E => ∃ (x dx t aS aW : Addr) (xs xS xW : List V) (ds dS dW : List PyData) (vP vT : V) (dP dT : PyData), vs = [.ref x, .ref aS, vP, .ref aW, vT, .ref t] ∧ H x = some (.ins C dx []) ∧
  SqT K H t xs ∧ DpAll K H xs ds ∧ (∀ d ∈ ds, Shal 2 d) ∧ Sq K H aS xS ∧ DpAll K H xS dS ∧ (∀ d ∈ dS, Shal 2 d) ∧ xS.length ≤ sizeLine ∧ Sq K H aW xW ∧ DpAll K H xW dW ∧ (∀ d ∈ dW, Shal 2 d ∧ ∀ es, d ≠ .tuple es) ∧ Dp K H vP dP ∧ Shal 2 dP ∧ Dp K H vT dT ∧ Shal 2 dT ∧
  (∀ n d, lnErr xs.length ds dS dP dW dT = some (n, d) → ∀ dd H', ErrOut K H H' dd (errN n) "given" d → E (.ref (cA n)) (some dd) H') ∧
  (lnErr xs.length ds dS dP dW dT = none → ∀ (H' : Hp) (tS tW : Addr) (ns : List Int), H' x = some (.ins C dx (lnf t tS vP tW vT)) → (∀ b o, b ≠ x → H b = some o → H' b = some o) → ns.Perm (dS.map dInt) → ns.Pairwise (· ≤ ·) → SqT K H' tS (ns.map V.int) → SqT K H' tW xW → Q .non H')
theorem putF_len {f : Str} {y : V} : ∀ {k : Nat} {fs : List (Str × V)}, fs.length ≤ k → (putF f y fs).length ≤ k + 1
  | k, [], h => by show 1 ≤ k + 1; omega
  | k, (g, z) :: r, h => by
    unfold putF
    split
    · exact Nat.le_succ_of_le h
    · have h' : r.length + 1 ≤ k := h
      have q := putF_len (f := f) (y := y) (k := k - 1) (fs := r) (by omega)
      show (putF f y r).length + 1 ≤ k + 1
      omega
theorem putF_small {f : Str} {y : V} {k : Nat} {fs : List (Str × V)} (h : fs.length ≤ k) (hk : k < 900) : (putF f y fs).length < 1000 := by
  have := putF_len (f := f) (y := y) h
  omega
theorem scans_ints {K : PySem.W.Frag} {H : Hp} {hi : Int} : ∀ {ds : List PyData} {xs : List V} {seen : List Int}, badScan hi seen ds = none → DpAll K H xs ds → xs = (ds.map dInt).map V.int
  | [], xs, seen, _, h => by cases h; rfl
  | d :: ds, xs, seen, hb, h => by
    rw [badScan_cons] at hb
    by_cases g : scanOk hi seen d = true
    · rw [if_pos g] at hb
      cases h with
      | cons h1 h2 =>
        have g1 : numB d 1 hi = true := by
          unfold scanOk at g
          exact (Bool.and_eq_true_iff.mp g).1
        obtain ⟨n, rfl⟩ := numB_int g1
        cases h1
        rw [List.map_cons, List.map_cons, ← scans_ints hb h2]
        rfl
    · rw [if_neg g] at hb
      cases hb
theorem sq_sorted {K : PySem.W.Frag} {H : Hp} {a : Addr} {ns : List Int} {Q : VK} (h : Sq K H a (ns.map V.int)) (q : ∀ (ns' : List Int) (p : Addr), ns'.Perm ns → ns'.Pairwise (· ≤ ·) → H p = none → Q (.ref p) (upd H p (.lst (ns'.map V.int)))) : rSortedI K [.ref a] H Q ∨ rSortedIT K [.ref a] H Q :=
  h.elim (fun h => .inl ⟨a, ns, rfl, h, q⟩) fun h => .inr ⟨a, ns, rfl, h, q⟩
theorem ins_sq {C dx : Addr} {fs : List (Str × V)} : ¬ IsSq (.ins C dx fs) := by
  rintro ⟨xs, h | h | ⟨ob, h⟩ | ⟨ob, h⟩⟩ <;> cases h
section
variable {P : Program} {w : World} {K : PySem.W.Frag} {mg : Str → Option Value} {base : Heap}
/-- the checks, as they stand -/
structure CkL (P : Program) (w : World) (K : PySem.W.Frag) (mg : Str → Option Value) (base : Heap) (cA : Nat → Addr) : Prop where
  R : ∃ f fd, FnOk P w K mg base (L2.CX P w) 7 f fd ["rooms", "most"] (spCkR K (cA 0) (cA 1)) ∧ mg "check_rooms" = some (.ref f) ∧ PySem.W.keepIn K (.ref f) = true ∧ Binds K fd ["rooms", "most"] []
  S : ∃ f fd, FnOk P w K mg base (L2.CX P w) 6 f fd ["scans", "last"] (spCkS K (cA 3)) ∧ mg "check_scans" = some (.ref f) ∧ PySem.W.keepIn K (.ref f) = true ∧ Binds K fd ["scans", "last"] []
  Pp : ∃ f fd, FnOk P w K mg base (L2.CX P w) 6 f fd ["slips"] (spCkP K (cA 1)) ∧ mg "check_slips" = some (.ref f) ∧ PySem.W.keepIn K (.ref f) = true ∧ Binds K fd ["slips"] []
  W : ∃ f fd, FnOk P w K mg base (L2.CX P w) 7 f fd ["words"] (spCkSW K (cA 2)) ∧ mg "check_slip_words" = some (.ref f) ∧ PySem.W.keepIn K (.ref f) = true ∧ Binds K fd ["words"] []
  T : ∃ f fd, FnOk P w K mg base (L2.CX P w) 7 f fd ["stretch"] (spCkT K (cA 1)) ∧ mg "check_stretch" = some (.ref f) ∧ PySem.W.keepIn K (.ref f) = true ∧ Binds K fd ["stretch"] []
structure LnF (K : PySem.W.Frag) (mg : Str → Option Value) (C : Addr) : Prop where
  cl : Cls K C
  at_ : mg "Line" = some (.ref C)
  n1 : NoAttr K C "_belts"
  n2 : NoAttr K C "_scans"
  n3 : NoAttr K C "_slips"
  n4 : NoAttr K C "_words"
  n5 : NoAttr K C "_stretch"
  most : ∃ mc tk, CRead K C mc ∧ CVal K C mc "MOST" (.int 3) (.int 3 tk)
  zL : mg "len" = none
  zT : mg "tuple" = none
  zS : mg "sorted" = none
theorem scLI : FnScope ["self", "scans", "slips", "words", "stretch", "belts"] ["self", "scans", "slips", "words", "stretch", "belts"] (defScope sLI) := ⟨rfl, rfl, rfl, by decide +kernel, rfl, by decide +kernel, by decide +kernel⟩
theorem body_ln {C : Addr} {cA : Nat → Addr} {f : Addr} {qual : Str} {cdv : Value} {A : Around} {outer : List Env} {s : Shared} {H : Hp} {vs : List V} {Q : VK} {E : XK} (T : LnF K mg C) (c : CkL P w K mg base cA)
    (hr : Room 7 (A.deeper (PyProof.Rows.envOfC qual (defScope sLI) s.heap.objs.size f cdv))) (h : spLn K C cA vs H Q E) :
    ∃ t, PSs (cxOf (L2.CX P w) P w K mg base ["self", "scans", "slips", "words", "stretch", "belts"] qual (defScope sLI) f cdv A outer s H E) (defBody sLI) t ∧ t { nx := fun _ H' => Q .non H', rt := Q } (start ["self", "scans", "slips", "words", "stretch", "belts"] vs) H := by
  obtain ⟨x, dx, t, aS, aW, xs, xS, xW, ds, dS, dW, vP, vT, dP, dT, rfl, hx, ht, hds, hsh, hS, hdS, hsS, hzS, hW, hdW, hsW, hP, hsP, hT, hsT, kE, kQ⟩ := h
  obtain ⟨mc, tk, cr, cv⟩ := T.most
  obtain ⟨fR, gR, GR, mR, kR, bR⟩ := c.R
  obtain ⟨fS, gS, GS, mS, kS, bS⟩ := c.S
  obtain ⟨fP, gP, GP, mP, kP, bP⟩ := c.Pp
  obtain ⟨fW, gW, GW, mW, kW, bW⟩ := c.W
  obtain ⟨fT, gT, GT, mT, kT, bT⟩ := c.T
  have nd := scLI.nd
  have px : ∀ {N : List Str}, Passes (L2.CX P w) (cxOf (L2.CX P w) P w K mg base N qual (defScope sLI) f cdv A outer s H E) E := passes_call (takes_of rfl rfl rfl rfl) (fun _ _ _ _ h => h)
  refine ⟨_, (pss_cons (ps_expr (pe_call GR hr rfl mR kR bR .nil px (pa_cons (pv 5) (pa_cons (pe_cval (pe_glob (v := .ref C) (by rfl) T.at_ rfl)) pa_nil))))
    (pss_cons (ps_expr (pe_call GS (hr.mono (by decide)) rfl mS kS bS .nil px (pa_cons (pv 1) (pa_cons (pe_callB call_len_seq (by rfl) T.zL PySem.boot_len (pa_cons (pv 5) pa_nil)) pa_nil))))
    (pss_cons (ps_expr (pe_call GP (hr.mono (by decide)) rfl mP kP bP .nil px (pa_cons (pv 2) pa_nil)))
    (pss_cons (ps_expr (pe_call GW hr rfl mW kW bW .nil px (pa_cons (pv 3) pa_nil)))
    (pss_cons (ps_expr (pe_call GT hr rfl mT kT bT .nil px (pa_cons (pv 4) pa_nil)))
    (pss_cons (ps_fld (pv 0) (pv 5) rfl)
    (pss_cons (ps_fld (pv 0) (pe_callTy call_tuple_of (by rfl) T.zT (by decide +kernel) (pa_cons (pe_callB (CallR.or cr_sortedI cr_sortedIT) (by rfl) T.zS PyProof.Rows.boot_sorted (pa_cons (pv 1) pa_nil)) pa_nil)) rfl)
    (pss_cons (ps_fld (pv 0) (pv 2) rfl)
    (pss_cons (ps_fld (pv 0) (pe_callTy call_tuple_of (by rfl) T.zT (by decide +kernel) (pa_cons (pv 3) pa_nil)) rfl)
    (pss_one (ps_fld (pv 0) (pv 4) rfl))))))))))), ?_⟩
  unfold lnErr at kE kQ
  refine ⟨_, rfl, C, mc, _, _, rfl, cr, cv, t, xs, ds, 3, rfl, ht, hds, hsh, fun c1 => kE 0 _ (if_pos c1), fun c1 => ⟨fun b hb => kE 1 b (by rw [if_neg (fun z => z c1), hb]), fun hb => ?_⟩⟩
  rw [if_neg (fun z => z c1), hb] at kE kQ
  dsimp only at kE kQ
  refine ⟨_, rfl, _, rfl, t, xs, rfl, .inr ht, aS, xS, dS, (xs.length : Int), rfl, hS, hdS, hsS, hzS, fun g H1 s1 => ?_, fun d g dd H' eo => kE 3 d (by rw [g]) dd H' eo⟩
  rw [g] at kE kQ
  dsimp only at kE kQ
  refine ⟨_, rfl, vP, dP, rfl, dp_same s1 _ _ hP, hsP, fun g2 => ?_, fun g2 dd H' eo => kE 1 dP (by rw [if_pos g2]) dd H' (eo.pre s1)⟩
  rw [if_neg (by rw [g2]; simp)] at kE kQ
  refine ⟨_, rfl, aW, xW, dW, rfl, sq_seqs (Seqs.of s1) hW, dpAll_seqs (Seqs.of s1) _ _ hdW, hsW, fun g3 H2 s2 => ?_, fun d g dd H' eo => kE 2 d (by rw [g]) dd H' (eo.pre s1)⟩
  rw [g3] at kE kQ
  dsimp only at kE kQ
  have s12 := s1.trans s2
  refine ⟨_, rfl, vT, dT, rfl, dp_same s12 _ _ hT, hsT, fun g4 => ?_, fun g4 dd H' eo => kE 1 dT (if_pos g4) dd H' (eo.pre s12)⟩
  have kQ := kQ (if_neg (by rw [g4]; simp))
  have hx2 := s12 _ _ hx
  have up : ∀ (o : HO) (b : Addr) (u : HO), b ≠ x → H b = some u → upd H2 x o b = some u := fun o b u hb e => by rw [upd_ne hb]; exact s12 _ _ e
  have nx : ∀ (b : Addr) (u : HO), IsSq u → H b = some u → b ≠ x := fun b u n e z => by rw [z, hx] at e; cases e; exact ins_sq n
  refine ⟨_, rfl, _, rfl, x, C, dx, _, rfl, hx2, T.cl, T.n1, (by show 0 < 1000; decide), ?_⟩
  refine ⟨_, rfl, sq_sorted (ns := dS.map dInt) (by rw [← scans_ints g hdS]; exact sq_seqs (fun b o n e => up _ b o (nx b o n e) e) hS) fun ns p pm sr np => ⟨p, _, rfl, .inl ⟨SqL.of upd_same, fun q nq => ?_⟩⟩⟩
  have px_ : x ≠ p := fun z => by rw [← z, upd_same] at np; cases np
  have qx : x ≠ q := fun z => by rw [← z, upd_ne px_, upd_same] at nq; cases nq
  refine ⟨_, rfl, x, C, dx, _, rfl, by rw [upd_ne qx, upd_ne px_]; exact upd_same, T.cl, T.n2, putF_small (k := 0) (Nat.le_refl _) (by decide), ?_⟩
  refine ⟨_, rfl, _, rfl, x, C, dx, _, rfl, upd_same, T.cl, T.n3, putF_small (k := 1) (putF_len (k := 0) (Nat.le_refl _)) (by decide), ?_⟩
  refine ⟨_, rfl, ?_⟩
  have keep : ∀ (o1 o2 o3 : HO) (lp tq : HO) (b : Addr) (u : HO), b ≠ x → H b = some u → upd (upd (upd (upd (upd H2 x o1) p lp) q tq) x o2) x o3 b = some u := fun o1 o2 o3 lp tq b u hb e => by
    have e2 := s12 _ _ e
    have bp : b ≠ p := fun z => by
      rw [← z, upd_ne hb, e2] at np
      cases np
    have bq : b ≠ q := fun z => by
      rw [← z, upd_ne bp, upd_ne hb, e2] at nq
      cases nq
    rw [upd_ne hb, upd_ne hb, upd_ne bq, upd_ne bp, upd_ne hb]
    exact e2
  have hq0 : ∀ (o1 o2 o3 : HO) (lp tq : HO), upd (upd (upd (upd (upd H2 x o1) p lp) q tq) x o2) x o3 q = some tq := fun o1 o2 o3 lp tq => by
    rw [upd_ne qx.symm, upd_ne qx.symm]
    exact upd_same
  have fin : ∀ (G : Hp) (tW : Addr), (∀ (b : Addr) (u : HO), b ≠ x → H b = some u → G b = some u) → G q = some (.tup (ns.map V.int)) → G x = some (.ins C dx (putF "_slips" vP (putF "_scans" (.ref q) (putF "_belts" (.ref t) [])))) → (∀ o, SqT K (upd G x o) tW xW) →
      ∀ G' : Hp, G' = upd (upd G x (.ins C dx (putF "_words" (.ref tW) (putF "_slips" vP (putF "_scans" (.ref q) (putF "_belts" (.ref t) [])))))) x (.ins C dx (lnf t q vP tW vT)) → Q .non G' := fun G tW k1 k2 k3 k4 G' e => by
    subst e
    refine kQ _ q tW ns upd_same (fun b u hb e => ?_) pm sr (SqT.of (by rw [upd_ne qx.symm, upd_ne qx.symm]; exact k2)) (by rw [upd_upd]; exact k4 _)
    rw [upd_ne hb, upd_ne hb]
    exact k1 b u hb e
  have kp := keep (.ins C dx (putF "_belts" (.ref t) [])) (.ins C dx (putF "_scans" (.ref q) (putF "_belts" (.ref t) []))) (.ins C dx (putF "_slips" vP (putF "_scans" (.ref q) (putF "_belts" (.ref t) [])))) (.lst (ns.map V.int)) (.tup (ns.map V.int))
  have h0 := hq0 (.ins C dx (putF "_belts" (.ref t) [])) (.ins C dx (putF "_scans" (.ref q) (putF "_belts" (.ref t) []))) (.ins C dx (putF "_slips" vP (putF "_scans" (.ref q) (putF "_belts" (.ref t) [])))) (.lst (ns.map V.int)) (.tup (ns.map V.int))
  rcases hW with hW | hW
  · refine ⟨aW, xW, rfl, .inl ⟨seqs_l (fun b o n e => kp b o (nx b o n e) e) hW, fun r nr => ?_⟩⟩
    have rx : x ≠ r := fun z => by rw [← z, upd_same] at nr; cases nr
    refine ⟨_, rfl, x, C, dx, _, rfl, by rw [upd_ne rx]; exact upd_same, T.cl, T.n4, putF_small (k := 2) (putF_len (k := 1) (putF_len (k := 0) (Nat.le_refl _))) (by decide), ?_⟩
    refine ⟨_, rfl, _, rfl, x, C, dx, _, rfl, upd_same, T.cl, T.n5, putF_small (k := 3) (putF_len (k := 2) (putF_len (k := 1) (putF_len (k := 0) (Nat.le_refl _)))) (by decide), ?_⟩
    refine fin _ r (fun b u hb e => ?_) ?_ (by rw [upd_ne rx]; exact upd_same) (fun o => SqT.of (by rw [upd_ne rx.symm]; exact upd_same)) _ rfl
    · rw [upd_ne (fun z => by rw [← z, kp b u hb e] at nr; cases nr)]
      exact kp b u hb e
    · rw [upd_ne (fun z => by rw [← z, h0] at nr; cases nr)]
      exact h0
  · have hw : SqT K (upd (upd (upd (upd (upd H2 x (.ins C dx (putF "_belts" (.ref t) []))) p (.lst (ns.map V.int))) q (.tup (ns.map V.int))) x (.ins C dx (putF "_scans" (.ref q) (putF "_belts" (.ref t) [])))) x (.ins C dx (putF "_slips" vP (putF "_scans" (.ref q) (putF "_belts" (.ref t) []))))) aW xW := seqs_t (fun b o n e => kp b o (nx b o n e) e) hW
    refine ⟨aW, xW, rfl, .inr ⟨hw, ?_⟩⟩
    refine ⟨_, rfl, x, C, dx, _, rfl, upd_same, T.cl, T.n4, putF_small (k := 2) (putF_len (k := 1) (putF_len (k := 0) (Nat.le_refl _))) (by decide), ?_⟩
    refine ⟨_, rfl, _, rfl, x, C, dx, _, rfl, upd_same, T.cl, T.n5, putF_small (k := 3) (putF_len (k := 2) (putF_len (k := 1) (putF_len (k := 0) (Nat.le_refl _)))) (by decide), ?_⟩
    refine fin _ aW kp h0 upd_same (fun o => ?_) _ rfl
    rw [upd_upd]
    refine seqs_t (fun b u n e => ?_) hW
    have hb := nx b u n e
    have z := kp b u hb e
    rw [upd_ne hb] at z
    rw [upd_ne hb]
    exact z
end
end Own

namespace Own
open PySem L2 ClX PySem.HandSPX
/-- Line.__init__ as it stands behind the top, with its keyword-only defaults -/
structure LnInit (K : PySem.W.Frag) (f a0 a1 a2 : Addr) : Prop where
  ex : ∃ (oc : Value) (od : Option Addr) (D : Addr) (doc pm : Value) (an : Option Addr) (cdv ct : Value) (osl : Array (Option Value)), K.lookup f = some ⟨oc, od, .func (PySem.W.fnOf "__init__" "Line.__init__" (defArgs sLI) (defBody sLI) (defScope sLI) .none (.ref D) doc pm an cdv ct), osl⟩ ∧ PySem.W.codeIn K cdv "Line.__init__" = true ∧
    PySem.W.nsIn K D "scans" = some (some (.ref a0)) ∧ PySem.W.nsIn K D "slips" = some (some (.ref a1)) ∧ PySem.W.nsIn K D "words" = some (some (.ref a2)) ∧ PySem.W.nsIn K D "stretch" = some (some .none)
  k0 : KT K a0 []
  k1 : KT K a1 [.int 1, .int 4]
  k2 : KT K a2 (slipW.map V.str)
/-- ws put among mv at k -/
def mixAt {α : Type} (k : Nat) : List α → List α → List α := fun ws mv => mv.take k ++ ws ++ mv.drop k
theorem mixAt_vals {k : Nat} {ws mv : List V} {us vs : List Value} (r : Vals ws us) (m : Vals mv vs) : Vals (mixAt k ws mv) (mixAt k us vs) := ((m.take k).append r).append (m.drop k)
theorem mixAt_len {α : Type} {k n : Nat} {ws mv : List α} (h : ws.length + mv.length = n) : (mixAt k ws mv).length = n := by
  unfold mixAt
  rw [List.length_append, List.length_append, List.length_take, List.length_drop]
  omega
section
variable {P : Program} {w : World} {K : PySem.W.Frag} {mg : Str → Option Value} {base : Heap}
theorem ln_none {f C a0 a1 a2 : Addr} {cA : Nat → Addr} (I : LnInit K f a0 a1 a2) (T : LnF K mg C) (c : CkL P w K mg base cA) : FnSt P w K mg base (L2.CX P w) 8 f [] (fun zs => mixAt 0 zs [.ref a0, .ref a1, .ref a2, .non]) (spLn K C cA) := by
  obtain ⟨oc, od, D, doc, pm, an, cdv, ct, osl, lk, hcd, d1, d2, d3, d4⟩ := I.ex
  exact fn_starKwo (ms := [("scans", .ref a0), ("slips", .ref a1), ("words", .ref a2), ("stretch", .non)]) (g := mixAt 0) (gV := mixAt 0) (ps := ["scans", "slips", "words", "stretch"]) (pv := "belts") (p0 := "self") lk hcd scLI StX.cxUp
    (fun q hq => by
      simp only [List.mem_cons, List.not_mem_nil, or_false] at hq
      rcases hq with rfl | rfl | rfl | rfl
      · exact ⟨_, d1, rfl⟩
      · exact ⟨_, d2, rfl⟩
      · exact ⟨_, d3, rfl⟩
      · exact ⟨_, d4, rfl⟩) (fun r m => mixAt_vals r m) (fun ws mv l1 l2 => mixAt_len (by rw [l1, l2]; rfl))
    (fun a us ws mv l1 l2 => match ws, l1, mv, l2, us with
      | [], _, [_, _, _, _], _, [] => ⟨_, _, _, _, _, _, rfl, rfl, _, _, _, _, _, _, rfl, rfl, _, _, _, _, _, _, rfl, rfl, _, _, _, _, _, _, rfl, rfl, rfl⟩
      | [], _, [_, _, _, _], _, _ :: _ => ⟨_, _, _, _, _, _, rfl, rfl, _, _, _, _, _, _, rfl, rfl, _, _, _, _, _, _, rfl, rfl, _, _, _, _, _, _, rfl, rfl, rfl⟩)
    (fun A outer s H vs Q E hr h => body_ln T c hr h)
theorem ln_scans {f C a0 a1 a2 : Addr} {cA : Nat → Addr} (I : LnInit K f a0 a1 a2) (T : LnF K mg C) (c : CkL P w K mg base cA) : FnSt P w K mg base (L2.CX P w) 8 f ["scans"] (fun zs => mixAt 0 zs [.ref a1, .ref a2, .non]) (spLn K C cA) := by
  obtain ⟨oc, od, D, doc, pm, an, cdv, ct, osl, lk, hcd, d1, d2, d3, d4⟩ := I.ex
  exact fn_starKwo (ms := [("slips", .ref a1), ("words", .ref a2), ("stretch", .non)]) (g := mixAt 0) (gV := mixAt 0) (ps := ["scans", "slips", "words", "stretch"]) (pv := "belts") (p0 := "self") lk hcd scLI StX.cxUp
    (fun q hq => by
      simp only [List.mem_cons, List.not_mem_nil, or_false] at hq
      rcases hq with rfl | rfl | rfl
      · exact ⟨_, d2, rfl⟩
      · exact ⟨_, d3, rfl⟩
      · exact ⟨_, d4, rfl⟩) (fun r m => mixAt_vals r m) (fun ws mv l1 l2 => mixAt_len (by rw [l1, l2]; rfl))
    (fun a us ws mv l1 l2 => match ws, l1, mv, l2, us with
      | [_], _, [_, _, _], _, [] => ⟨_, _, _, _, _, _, rfl, rfl, _, _, _, _, _, _, rfl, rfl, _, _, _, _, _, _, rfl, rfl, rfl⟩
      | [_], _, [_, _, _], _, _ :: _ => ⟨_, _, _, _, _, _, rfl, rfl, _, _, _, _, _, _, rfl, rfl, _, _, _, _, _, _, rfl, rfl, rfl⟩)
    (fun A outer s H vs Q E hr h => body_ln T c hr h)
theorem ln_two {f C a0 a1 a2 : Addr} {cA : Nat → Addr} (I : LnInit K f a0 a1 a2) (T : LnF K mg C) (c : CkL P w K mg base cA) : FnSt P w K mg base (L2.CX P w) 8 f ["scans", "slips"] (fun zs => mixAt 0 zs [.ref a2, .non]) (spLn K C cA) := by
  obtain ⟨oc, od, D, doc, pm, an, cdv, ct, osl, lk, hcd, d1, d2, d3, d4⟩ := I.ex
  exact fn_starKwo (ms := [("words", .ref a2), ("stretch", .non)]) (g := mixAt 0) (gV := mixAt 0) (ps := ["scans", "slips", "words", "stretch"]) (pv := "belts") (p0 := "self") lk hcd scLI StX.cxUp
    (fun q hq => by
      simp only [List.mem_cons, List.not_mem_nil, or_false] at hq
      rcases hq with rfl | rfl
      · exact ⟨_, d3, rfl⟩
      · exact ⟨_, d4, rfl⟩) (fun r m => mixAt_vals r m) (fun ws mv l1 l2 => mixAt_len (by rw [l1, l2]; rfl))
    (fun a us ws mv l1 l2 => match ws, l1, mv, l2, us with
      | [_, _], _, [_, _], _, [] => ⟨_, _, _, _, _, _, rfl, rfl, _, _, _, _, _, _, rfl, rfl, rfl⟩
      | [_, _], _, [_, _], _, _ :: _ => ⟨_, _, _, _, _, _, rfl, rfl, _, _, _, _, _, _, rfl, rfl, rfl⟩)
    (fun A outer s H vs Q E hr h => body_ln T c hr h)
theorem ln_mid {f C a0 a1 a2 : Addr} {cA : Nat → Addr} (I : LnInit K f a0 a1 a2) (T : LnF K mg C) (c : CkL P w K mg base cA) : FnSt P w K mg base (L2.CX P w) 8 f ["slips", "words"] (fun zs => mixAt 1 zs [.ref a0, .non]) (spLn K C cA) := by
  obtain ⟨oc, od, D, doc, pm, an, cdv, ct, osl, lk, hcd, d1, d2, d3, d4⟩ := I.ex
  exact fn_starKwo (ms := [("scans", .ref a0), ("stretch", .non)]) (g := mixAt 1) (gV := mixAt 1) (ps := ["scans", "slips", "words", "stretch"]) (pv := "belts") (p0 := "self") lk hcd scLI StX.cxUp
    (fun q hq => by
      simp only [List.mem_cons, List.not_mem_nil, or_false] at hq
      rcases hq with rfl | rfl
      · exact ⟨_, d1, rfl⟩
      · exact ⟨_, d4, rfl⟩) (fun r m => mixAt_vals r m) (fun ws mv l1 l2 => mixAt_len (by rw [l1, l2]; rfl))
    (fun a us ws mv l1 l2 => match ws, l1, mv, l2, us with
      | [_, _], _, [_, _], _, [] => ⟨_, _, _, _, _, _, rfl, rfl, _, _, _, _, _, _, rfl, rfl, rfl⟩
      | [_, _], _, [_, _], _, _ :: _ => ⟨_, _, _, _, _, _, rfl, rfl, _, _, _, _, _, _, rfl, rfl, rfl⟩)
    (fun A outer s H vs Q E hr h => body_ln T c hr h)
theorem ln_late {f C a0 a1 a2 : Addr} {cA : Nat → Addr} (I : LnInit K f a0 a1 a2) (T : LnF K mg C) (c : CkL P w K mg base cA) : FnSt P w K mg base (L2.CX P w) 8 f ["words", "stretch"] (fun zs => mixAt 2 zs [.ref a0, .ref a1]) (spLn K C cA) := by
  obtain ⟨oc, od, D, doc, pm, an, cdv, ct, osl, lk, hcd, d1, d2, d3, d4⟩ := I.ex
  exact fn_starKwo (ms := [("scans", .ref a0), ("slips", .ref a1)]) (g := mixAt 2) (gV := mixAt 2) (ps := ["scans", "slips", "words", "stretch"]) (pv := "belts") (p0 := "self") lk hcd scLI StX.cxUp
    (fun q hq => by
      simp only [List.mem_cons, List.not_mem_nil, or_false] at hq
      rcases hq with rfl | rfl
      · exact ⟨_, d1, rfl⟩
      · exact ⟨_, d2, rfl⟩) (fun r m => mixAt_vals r m) (fun ws mv l1 l2 => mixAt_len (by rw [l1, l2]; rfl))
    (fun a us ws mv l1 l2 => match ws, l1, mv, l2, us with
      | [_, _], _, [_, _], _, [] => ⟨_, _, _, _, _, _, rfl, rfl, _, _, _, _, _, _, rfl, rfl, rfl⟩
      | [_, _], _, [_, _], _, _ :: _ => ⟨_, _, _, _, _, _, rfl, rfl, _, _, _, _, _, _, rfl, rfl, rfl⟩)
    (fun A outer s H vs Q E hr h => body_ln T c hr h)
theorem ln_words {f C a0 a1 a2 : Addr} {cA : Nat → Addr} (I : LnInit K f a0 a1 a2) (T : LnF K mg C) (c : CkL P w K mg base cA) : FnSt P w K mg base (L2.CX P w) 8 f ["words"] (fun zs => mixAt 2 zs [.ref a0, .ref a1, .non]) (spLn K C cA) := by
  obtain ⟨oc, od, D, doc, pm, an, cdv, ct, osl, lk, hcd, d1, d2, d3, d4⟩ := I.ex
  exact fn_starKwo (ms := [("scans", .ref a0), ("slips", .ref a1), ("stretch", .non)]) (g := mixAt 2) (gV := mixAt 2) (ps := ["scans", "slips", "words", "stretch"]) (pv := "belts") (p0 := "self") lk hcd scLI StX.cxUp
    (fun q hq => by
      simp only [List.mem_cons, List.not_mem_nil, or_false] at hq
      rcases hq with rfl | rfl | rfl
      · exact ⟨_, d1, rfl⟩
      · exact ⟨_, d2, rfl⟩
      · exact ⟨_, d4, rfl⟩) (fun r m => mixAt_vals r m) (fun ws mv l1 l2 => mixAt_len (by rw [l1, l2]; rfl))
    (fun a us ws mv l1 l2 => match ws, l1, mv, l2, us with
      | [_], _, [_, _, _], _, [] => ⟨_, _, _, _, _, _, rfl, rfl, _, _, _, _, _, _, rfl, rfl, _, _, _, _, _, _, rfl, rfl, rfl⟩
      | [_], _, [_, _, _], _, _ :: _ => ⟨_, _, _, _, _, _, rfl, rfl, _, _, _, _, _, _, rfl, rfl, _, _, _, _, _, _, rfl, rfl, rfl⟩)
    (fun A outer s H vs Q E hr h => body_ln T c hr h)
theorem ln_last {f C a0 a1 a2 : Addr} {cA : Nat → Addr} (I : LnInit K f a0 a1 a2) (T : LnF K mg C) (c : CkL P w K mg base cA) : FnSt P w K mg base (L2.CX P w) 8 f ["stretch"] (fun zs => mixAt 3 zs [.ref a0, .ref a1, .ref a2]) (spLn K C cA) := by
  obtain ⟨oc, od, D, doc, pm, an, cdv, ct, osl, lk, hcd, d1, d2, d3, d4⟩ := I.ex
  exact fn_starKwo (ms := [("scans", .ref a0), ("slips", .ref a1), ("words", .ref a2)]) (g := mixAt 3) (gV := mixAt 3) (ps := ["scans", "slips", "words", "stretch"]) (pv := "belts") (p0 := "self") lk hcd scLI StX.cxUp
    (fun q hq => by
      simp only [List.mem_cons, List.not_mem_nil, or_false] at hq
      rcases hq with rfl | rfl | rfl
      · exact ⟨_, d1, rfl⟩
      · exact ⟨_, d2, rfl⟩
      · exact ⟨_, d3, rfl⟩) (fun r m => mixAt_vals r m) (fun ws mv l1 l2 => mixAt_len (by rw [l1, l2]; rfl))
    (fun a us ws mv l1 l2 => match ws, l1, mv, l2, us with
      | [_], _, [_, _, _], _, [] => ⟨_, _, _, _, _, _, rfl, rfl, _, _, _, _, _, _, rfl, rfl, _, _, _, _, _, _, rfl, rfl, rfl⟩
      | [_], _, [_, _, _], _, _ :: _ => ⟨_, _, _, _, _, _, rfl, rfl, _, _, _, _, _, _, rfl, rfl, _, _, _, _, _, _, rfl, rfl, rfl⟩)
    (fun A outer s H vs Q E hr h => body_ln T c hr h)
theorem ln_slips {f C a0 a1 a2 : Addr} {cA : Nat → Addr} (I : LnInit K f a0 a1 a2) (T : LnF K mg C) (c : CkL P w K mg base cA) : FnSt P w K mg base (L2.CX P w) 8 f ["slips"] (fun zs => mixAt 1 zs [.ref a0, .ref a2, .non]) (spLn K C cA) := by
  obtain ⟨oc, od, D, doc, pm, an, cdv, ct, osl, lk, hcd, d1, d2, d3, d4⟩ := I.ex
  exact fn_starKwo (ms := [("scans", .ref a0), ("words", .ref a2), ("stretch", .non)]) (g := mixAt 1) (gV := mixAt 1) (ps := ["scans", "slips", "words", "stretch"]) (pv := "belts") (p0 := "self") lk hcd scLI StX.cxUp
    (fun q hq => by
      simp only [List.mem_cons, List.not_mem_nil, or_false] at hq
      rcases hq with rfl | rfl | rfl
      · exact ⟨_, d1, rfl⟩
      · exact ⟨_, d3, rfl⟩
      · exact ⟨_, d4, rfl⟩) (fun r m => mixAt_vals r m) (fun ws mv l1 l2 => mixAt_len (by rw [l1, l2]; rfl))
    (fun a us ws mv l1 l2 => match ws, l1, mv, l2, us with
      | [_], _, [_, _, _], _, [] => ⟨_, _, _, _, _, _, rfl, rfl, _, _, _, _, _, _, rfl, rfl, _, _, _, _, _, _, rfl, rfl, rfl⟩
      | [_], _, [_, _, _], _, _ :: _ => ⟨_, _, _, _, _, _, rfl, rfl, _, _, _, _, _, _, rfl, rfl, _, _, _, _, _, _, rfl, rfl, rfl⟩)
    (fun A outer s H vs Q E hr h => body_ln T c hr h)
end
end Own

namespace Own
open PySem L2 PySem.HandSPX
def tbl : List (Str × Option Str) := [("WrongCount", some ("given" : Str)), ("InvalidNumber", some ("given" : Str)), ("InvalidWord", some ("given" : Str)), ("InvalidPoint", some ("given" : Str)), ("InvalidField", some ("name" : Str)), ("InvalidText", some ("at" : Str)), ("InvalidDeed", some ("at" : Str)), ("NotNow", some ("at" : Str)), ("InvalidChute", some ("given" : Str)), ("InvalidOffer", some ("at" : Str)), ("Unlike", none), ("TooMany", some ("most" : Str)), ("InvalidName", some ("given" : Str)), ("DuplicateName", some ("name" : Str)), ("Full", some ("most" : Str)), ("InvalidLimit", some ("given" : Str)), ("InvalidCommand", some ("at" : Str)), ("InvalidPage", some ("at" : Str)), ("UnknownName", some ("name" : Str)), ("NothingLeft", none)]
def grp1 : List V := [.str "WrongCount", .str "InvalidNumber", .str "InvalidWord", .str "InvalidPoint", .str "InvalidChute", .str "InvalidName", .str "InvalidLimit"]
def grp2 : List V := [.str "InvalidText", .str "InvalidDeed", .str "NotNow", .str "InvalidOffer", .str "InvalidCommand", .str "InvalidPage"]
def grp3 : List V := [.str "InvalidField", .str "DuplicateName", .str "UnknownName"]
def grp4 : List V := [.str "TooMany", .str "Full"]
def chk (p : Str × Option Str) : Bool := bif inV (.str p.1) grp1 then decide (p.2 = some ("given" : Str)) else bif inV (.str p.1) grp2 then decide (p.2 = some ("at" : Str)) else bif inV (.str p.1) grp3 then decide (p.2 = some ("name" : Str)) else bif inV (.str p.1) grp4 then decide (p.2 = some ("most" : Str)) else decide (p.2 = none)
theorem tbl_chk : tbl.all chk = true := by decide +kernel
theorem tbl_facts (p : Str × Option Str) (hp : p ∈ tbl) : (inV (.str p.1) grp1 = true → p.2 = some ("given" : Str)) ∧ (inV (.str p.1) grp1 = false → inV (.str p.1) grp2 = true → p.2 = some ("at" : Str)) ∧ (inV (.str p.1) grp1 = false → inV (.str p.1) grp2 = false → inV (.str p.1) grp3 = true → p.2 = some ("name" : Str)) ∧
    (inV (.str p.1) grp1 = false → inV (.str p.1) grp2 = false → inV (.str p.1) grp3 = false → inV (.str p.1) grp4 = true → p.2 = some ("most" : Str)) ∧ (inV (.str p.1) grp1 = false → inV (.str p.1) grp2 = false → inV (.str p.1) grp3 = false → inV (.str p.1) grp4 = false → p.2 = none) := by
  have h := List.all_eq_true.mp tbl_chk p hp
  unfold chk at h
  refine ⟨fun b => ?_, fun b c => ?_, fun b c e => ?_, fun b c e g => ?_, fun b c e g => ?_⟩
  · rw [b] at h; exact of_decide_eq_true h
  · rw [b, c] at h; exact of_decide_eq_true h
  · rw [b, c, e] at h; exact of_decide_eq_true h
  · rw [b, c, e, g] at h; exact of_decide_eq_true h
  · rw [b, c, e, g] at h; exact of_decide_eq_true h

/-- what is known of the class of an error that is told -/
structure ErrTell (K : PySem.W.Frag) (cB cM cZ C : Addr) (cname attr : Str) : Prop where
  any : PySem.W.exmAny K (.ref C) [.ref cB, .ref cM, .ref cZ] = some true
  T : ExK K C
  X : XfC K C
  n1 : PySem.W.findIn K (.ref C) "code" = some none
  n2 : PySem.W.findIn K (.ref C) attr = some none
  tb : (cname, some attr) ∈ tbl
/-- a caught error stands, tracked -/
def ErrQ (C : Addr) (cname attr : Str) (y : V) (v : V) (H : Hp) : Prop := ∃ (a dd : Addr) (o : Obj) (fs : List (Str × V)), v = .ref a ∧ H a = some (exq a o) ∧ ExQ C dd o ∧ H dd = some (exd dd fs) ∧ fs.lookup ("code" : Str) = some (V.str cname) ∧ fs.lookup attr = some y
theorem ErrQ.same {C : Addr} {cname attr : Str} {y : V} {v : V} {H H' : Hp} (h : ErrQ C cname attr y v H) (e : Same H H') : ErrQ C cname attr y v H' := by
  obtain ⟨a, dd, o, fs, h1, h2, h3, h4, h5, h6⟩ := h
  exact ⟨a, dd, o, fs, h1, e _ _ h2, h3, e _ _ h4, h5, h6⟩
def spFieldQ (K : PySem.W.Frag) : Sp := fun vs H Q _ => ∃ (v : V) (C : Addr) (cname attr : Str) (y : V), vs = [v] ∧ ErrQ C cname attr y v H ∧ (cname, some attr) ∈ tbl ∧ ExK K C ∧ PySem.W.findIn K (.ref C) "code" = some none ∧ PySem.W.findIn K (.ref C) attr = some none ∧
  ∀ (H' : Hp) (T : Addr), Same H H' → H T = none → H' T = some (.tup [y]) → Q (.ref T) H'
abbrev sField : Stmt := topT 35
abbrev sGot : Stmt := topT 36
abbrev sWhy : Stmt := topT 37
abbrev sWhys : Stmt := topT 38
section
variable {P : Program} {w : World} {K : PySem.W.Frag} {mg : Str → Option Value} {base : Heap}
theorem scField : FnScope ["_law_e"] ["_law_e"] (defScope sField) := ⟨rfl, rfl, rfl, by decide +kernel, rfl, by decide +kernel, by decide +kernel⟩
theorem code_inQ {σ : L2.St} {H : Hp} {C : Addr} {cname attr : Str} {y : V} {v : V} {ta : TA} {xs : List V} {R : Bool → Hp → Prop} (h0 : σ[0]? = some (some v)) (hv : ErrQ C cname attr y v H) (T : ExK K C) (nc : PySem.W.findIn K (.ref C) "code" = some none)
    (hl : xs.length ≤ 1000) (hf : xs.all flatV = true) (ht : ∀ (H : Hp) (Q : List V → Hp → Prop), Q xs H → ta σ H Q) (k : ∀ H', Same H H' → ErrQ C cname attr y v H' → R (inV (.str cname) xs) H') :
    tTest (tOp (rIn K false) (tGxq K "code" (tVar 0)) (tTup ta)) σ H R := by
  obtain ⟨a, dd, o, fs, rfl, h2, h3, h4, h5, h6⟩ := id hv
  exact ⟨_, h0, a, C, dd, o, fs, _, rfl, h2, h3, h4, T, nc, h5, ht _ _ ⟨Nat.le_trans hl (by decide), fun t ht => ⟨t, xs, rfl, .inr (SqT.of upd_same), rfl, hf, _, rfl, k _ ((Same.refl _).new ht) (hv.same ((Same.refl _).new ht))⟩⟩⟩
theorem field_tupQ {σ : L2.St} {H : Hp} {C : Addr} {cname attr p : Str} {y : V} {v : V} {Q : VK} (h0 : σ[0]? = some (some v)) (hv : ErrQ C cname attr y v H) (T : ExK K C) (np : PySem.W.findIn K (.ref C) attr = some none) (hp : some attr = some p)
    (k : ∀ (H' : Hp) (T : Addr), Same H H' → H T = none → H' T = some (.tup [y]) → Q (.ref T) H') : tTup (tCons (tGxq K p (tVar 0)) tNil) σ H Q := by
  cases hp
  obtain ⟨a, dd, o, fs, rfl, h2, h3, h4, h5, h6⟩ := id hv
  exact ⟨_, h0, a, C, dd, o, fs, _, rfl, h2, h3, h4, T, np, h6, (by show 1 ≤ sizeLine; decide), fun t ht => k _ t ((Same.refl _).new ht) ht upd_same⟩
theorem ok_fieldQ {f : Addr} {fd : FuncData} (F : Fun K "_law_field" "_law_field" sField f fd) : FnQ P w K mg base 2 f fd ["_law_e"] (spFieldQ K) := by
  refine fn_ofQ F scField (fun vs H Q E h => ?_) (fun cdv A outer s H vs Q E hr h => ?_)
  · obtain ⟨v, C, cname, attr, y, rfl, _⟩ := h
    rfl
  · obtain ⟨v, C, cname, attr, y, rfl, hv, ht, T, nc, np, k⟩ := h
    refine ⟨_, pss_cons (ps_if (pt_cmpR op_in_seq (pe_gxq (pv 0)) (pe_tup (pa_cons pe_str (pa_cons pe_str (pa_cons pe_str (pa_cons pe_str (pa_cons pe_str (pa_cons pe_str (pa_cons pe_str pa_nil)))))))) (by rfl)) (pss_one (ps_ret (pe_tup (pa_cons (pe_gxq (pv 0)) pa_nil)))) pss_nil)
      (pss_cons (ps_if (pt_cmpR op_in_seq (pe_gxq (pv 0)) (pe_tup (pa_cons pe_str (pa_cons pe_str (pa_cons pe_str (pa_cons pe_str (pa_cons pe_str (pa_cons pe_str pa_nil))))))) (by rfl)) (pss_one (ps_ret (pe_tup (pa_cons (pe_gxq (pv 0)) pa_nil)))) pss_nil)
      (pss_cons (ps_if (pt_cmpR op_in_seq (pe_gxq (pv 0)) (pe_tup (pa_cons pe_str (pa_cons pe_str (pa_cons pe_str pa_nil)))) (by rfl)) (pss_one (ps_ret (pe_tup (pa_cons (pe_gxq (pv 0)) pa_nil)))) pss_nil)
      (pss_one (ps_ret (pe_ifExp (pt_cmpR op_in_seq (pe_gxq (pv 0)) (pe_tup (pa_cons pe_str (pa_cons pe_str pa_nil))) (by rfl)) (pe_tup (pa_cons (pe_gxq (pv 0)) pa_nil)) (pe_tup pa_nil)))))), ?_⟩
    obtain ⟨f1, f2, f3, f4, f5⟩ := tbl_facts _ ht
    refine code_inQ (xs := grp1) rfl hv T nc (by decide) (by decide +kernel) (fun _ _ q => q) fun H1 s1 hv1 => ite2 (fun b1 => ?_) (fun b1 => ?_)
    · exact field_tupQ rfl hv1 T np (f1 b1) fun H' t e n q => k _ t (s1.trans e) (s1.free n) q
    have b1 := Bool.eq_false_iff.mpr b1
    refine code_inQ (xs := grp2) rfl hv1 T nc (by decide) (by decide +kernel) (fun _ _ q => q) fun H2 s2 hv2 => ite2 (fun b2 => ?_) (fun b2 => ?_)
    · exact field_tupQ rfl hv2 T np (f2 b1 b2) fun H' t e n q => k _ t ((s1.trans s2).trans e) ((s1.trans s2).free n) q
    have b2 := Bool.eq_false_iff.mpr b2
    refine code_inQ (xs := grp3) rfl hv2 T nc (by decide) (by decide +kernel) (fun _ _ q => q) fun H3 s3 hv3 => ite2 (fun b3 => ?_) (fun b3 => ?_)
    · exact field_tupQ rfl hv3 T np (f3 b1 b2 b3) fun H' t e n q => k _ t (((s1.trans s2).trans s3).trans e) (((s1.trans s2).trans s3).free n) q
    have b3 := Bool.eq_false_iff.mpr b3
    refine code_inQ (xs := grp4) rfl hv3 T nc (by decide) (by decide +kernel) (fun _ _ q => q) fun H4 s4 hv4 => ite2 (fun b4 => ?_) (fun b4 => ?_)
    · exact field_tupQ rfl hv4 T np (f4 b1 b2 b3 b4) fun H' t e n q => k _ t ((((s1.trans s2).trans s3).trans s4).trans e) ((((s1.trans s2).trans s3).trans s4).free n) q
    have b4 := Bool.eq_false_iff.mpr b4
    have z := f5 b1 b2 b3 b4
    cases z
theorem exq_sq {a : Addr} {o : Obj} : ¬ IsSq (exq a o) := by
  rintro ⟨xs, h | h | ⟨ob, h⟩ | ⟨ob, h⟩⟩
  · have z : HO.ext _ = HO.lst xs := h
    cases z
  · exact exq_tup h
  · exact exq_frz h
  · exact exq_frz h
/-- how an error of the body must be, for the law to tell it -/
def Caught (K : PySem.W.Frag) (cB cM cZ : Addr) (R : Str → V → Addr → Hp → Prop) : XK := fun cls d H1 => ∃ (C dd : Addr) (fs : List (Str × V)) (cname attr : Str) (y : V), cls = .ref C ∧ d = some dd ∧ ErrTell K cB cM cZ C cname attr ∧ H1 dd = some (.xd fs) ∧ fs.lookup ("code" : Str) = some (V.str cname) ∧ fs.lookup attr = some y ∧ R cname y dd H1
/-- what the telling of an error leaves -/
def Told (Q : VK) : Str → V → Addr → Hp → Prop := fun cname y dd H1 => ∀ H' T T1, (∀ b o, b ≠ dd → H1 b = some o → H' b = some o) → H1 T = none → H1 T1 = none → H' T = some (.tup [.str cname, .ref T1]) → H' T1 = some (.tup [y]) → Q (.ref T) H'
def spGot (P : Program) (w : World) (K : PySem.W.Frag) (mg : Str → Option Value) (base : Heap) (cB cM cZ : Addr) : Sp := fun vs H Q _ => ∃ (f : Addr) (sp0 : VK → XK → Hp → Prop), vs = [.ref f] ∧ Ask P w K mg base 13 H f sp0 ∧ ∀ (Q' : VK) (E' : XK),
  (∀ v H1, (∀ t, H1 t = none → Q (.ref t) (upd H1 t (.tup [.str "told", v]))) → Q' v H1) →
  (∀ cls d H1, Caught K cB cM cZ (Told Q) cls d H1 → E' cls d H1) → sp0 Q' E' H
theorem scGot : FnScope ["_law_ask", "_law_e"] ["_law_ask"] (defScope sGot) := ⟨rfl, rfl, rfl, by decide +kernel, rfl, by decide +kernel, by decide +kernel⟩
theorem ok_got {f fF cB cM cZ : Addr} {fd fdF : FuncData} (F : Fun K "_law_got" "_law_got" sGot f fd) (GF : FnQ P w K mg base 2 fF fdF ["_law_e"] (spFieldQ K)) (mF : mg "_law_field" = some (.ref fF)) (kF : PySem.W.keepIn K (.ref fF) = true) (bF : Binds K fdF ["_law_e"] [])
    (mB : mg "BeltError" = some (.ref cB)) (mM : mg "Missing" = some (.ref cM)) (mZ : mg "NothingLeft" = some (.ref cZ)) : FnOk P w K mg base CX0 14 f fd ["_law_ask"] (spGot P w K mg base cB cM cZ) := by
  refine F.ok scGot (fun vs H Q E h => ?_) (fun cdv A outer s H vs Q E hr h => ?_)
  · obtain ⟨g, sp0, rfl, _⟩ := h
    rfl
  · obtain ⟨g, sp0, rfl, ha, h⟩ := h
    refine ⟨_, pss_one (ps_try_tup3 (i := 1) rfl rfl scGot.nd rfl rfl ⟨by rfl, by decide, .inl mB⟩ ⟨by rfl, by decide, .inl mM⟩ ⟨by rfl, by decide, .inl mZ⟩
      (fun W pn xe tk _ => pss_one (ps_ret (pe_tup (pa_cons pe_str (pa_cons (show PE _ _ (tAsk P w K mg base 13 0 W) from pe_ask (i := 0) (k := 13) hr tk rfl (.inl rfl)) pa_nil)))))
      (fun a oe cls d pn hz hf hb => pss_one (ps_ret (pe_tup (pa_cons (pe_xfA hz hf (pv 1)) (pa_cons (pe_callX GF (L2H.roomH_of (hr.mono (by decide))) hz hf hb (by rfl) mF kF bF (pa_cons (pv 1) pa_nil)) pa_nil)))))), ?_⟩
    refine ⟨g, sp0, rfl, ha, h _ _ (fun v H1 q => ⟨by show 2 ≤ sizeLine; decide, q⟩) ?_⟩
    rintro cls d H1 ⟨C, dd, fs, cname, attr, y, rfl, rfl, te, hd, l1, l2, R⟩
    refine ⟨te.any, fun a na => ?_⟩
    have nad : a ≠ dd := fun z => by rw [z, hd] at na; cases na
    have eD : ∀ oe, hpX H1 a dd oe fs dd = some (exd dd fs) := fun oe => by unfold hpX; rw [upd_ne nad.symm, upd_same]
    refine ⟨_, rfl, rfl, C, dd, fs, _, rfl, te.X, te.n1, rfl, hd, l1, _, rfl, rfl, C, dd, fs, rfl, rfl, hd, fun oe eo => ⟨_, C, cname, attr, y, rfl, ⟨a, dd, oe, fs, rfl, upd_same, eo, eD oe, l1, l2⟩, te.tb, te.T, te.n1, te.n2, fun H2 T sm nT hT => ⟨sm _ _ upd_same, sm _ _ (eD oe), by show 2 ≤ sizeLine; decide, fun t ht => ?_⟩⟩⟩
    have ea : H2 a = some (exq a oe) := sm _ _ upd_same
    have ed : H2 dd = some (exd dd fs) := sm _ _ (eD oe)
    have nTa : T ≠ a := fun z => by rw [z, ea] at hT; exact exq_tup (Option.some.inj hT)
    have nTd : T ≠ dd := fun z => by rw [z, ed] at hT; exact exd_tup (Option.some.inj hT)
    have bk : ∀ b, b ≠ a → b ≠ dd → hpB H2 a dd fs b = H2 b := fun b h1 h2 => by unfold hpB; rw [upd_ne h2, del_ne h1]
    have hT' : hpB H2 a dd fs T = some (.tup [y]) := by rw [bk T nTa nTd]; exact hT
    have up : ∀ b, b ≠ a → b ≠ dd → hpX H1 a dd oe fs b = H1 b := fun b h1 h2 => by unfold hpX; rw [upd_ne h1, upd_ne h2]
    have ntd : t ≠ dd := fun z => by
      rw [z] at ht
      unfold hpB at ht
      rw [upd_same] at ht
      cases ht
    refine R _ t T (fun b o hbd e => ?_) ?_ ?_ upd_same ?_
    · have nba : b ≠ a := fun z => by rw [z, na] at e; cases e
      have e3 : hpB H2 a dd fs b = some o := by
        rw [bk b nba hbd]
        exact sm _ _ (by rw [up b nba hbd]; exact e)
      rw [upd_ne (ne_of_none e3 ht)]
      exact e3
    · by_cases q : t = a
      · rw [q]; exact na
      · rw [← up t q ntd]
        exact sm.free (by rw [← bk t q ntd]; exact ht)
    · rw [← up T nTa nTd]
      exact nT
    · rw [upd_ne (ne_of_none hT' ht)]
      exact hT'
end
end Own

namespace Own
open PySem L2 PySem.HandSPX
theorem tbl_told : ∀ p ∈ tbl, p.1 ≠ "told" := by decide +kernel
def spWhy (P : Program) (w : World) (K : PySem.W.Frag) (mg : Str → Option Value) (base : Heap) (cB cM cZ : Addr) : Sp := fun vs H Q _ => ∃ (f : Addr) (sp0 : VK → XK → Hp → Prop), vs = [.ref f] ∧ Ask P w K mg base 13 H f sp0 ∧ ∀ (Q' : VK) (E' : XK),
  (∀ v H1, (∀ H' T, Same H1 H' → Dp K H' (.ref T) (.tuple [.str "told", .none]) → Q (.ref T) H') → Q' v H1) →
  (∀ cls d H1, Caught K cB cM cZ (Told Q) cls d H1 → E' cls d H1) → sp0 Q' E' H
section
variable {P : Program} {w : World} {K : PySem.W.Frag} {mg : Str → Option Value} {base : Heap}
theorem scWhy : FnScope ["_law_ask", "_law_found"] ["_law_ask"] (defScope sWhy) := ⟨rfl, rfl, rfl, by decide +kernel, rfl, by decide +kernel, by decide +kernel⟩
theorem ok_why {f fG cB cM cZ : Addr} {fd fdG : FuncData} (F : Fun K "_law_why" "_law_why" sWhy f fd) (GG : FnOk P w K mg base CX0 14 fG fdG ["_law_ask"] (spGot P w K mg base cB cM cZ)) (mG : mg "_law_got" = some (.ref fG)) (kG : PySem.W.keepIn K (.ref fG) = true) (bG : Binds K fdG ["_law_ask"] []) :
    FnOk P w K mg base CX0 15 f fd ["_law_ask"] (spWhy P w K mg base cB cM cZ) := by
  refine F.ok scWhy (fun vs H Q E h => ?_) (fun cdv A outer s H vs Q E hr h => ?_)
  · obtain ⟨g, sp0, rfl, _⟩ := h
    rfl
  · obtain ⟨g, sp0, rfl, ha, h⟩ := h
    refine ⟨_, pss_cons (ps_set (i := 1) scWhy.nd rfl (Or.inl rfl) (pe_call GG hr rfl mG kG bG .nil pass0 (pa_cons (pv 0) pa_nil)))
      (pss_one (ps_ret (pe_ifExp (pt_cmpR op_ne (pe_ix ix_tup (pv 1) pe_int (fun _ _ => rfl)) pe_str (nomark _)) (pv 1) (pe_tup (pa_cons pe_str (pa_cons pe_non pa_nil)))))), ?_⟩
    refine ⟨_, rfl, g, sp0, rfl, ha, fun Q' E' h1 h2 => h Q' E' (fun v H1 q => h1 v H1 fun t ht => ?_) (fun cls d H1 c => h2 cls d H1 ?_)⟩
    · refine ⟨_, rfl, t, _, _, _, rfl, rfl, .inl (.inl upd_same), rfl, ?_⟩
      have sm : Same H1 (upd H1 t (.tup [.str "told", v])) := (Same.refl _).new ht
      refine ⟨rfl, _, rfl, iteF ⟨by show 2 ≤ sizeLine; decide, fun t2 ht2 => q _ t2 (sm.new ht2) (.tup (SqT.of upd_same) (.cons (.str _) (.cons .non .nil)))⟩⟩
    · obtain ⟨C, dd, fs, cname, attr, y, e1, e2, te, hd, l1, l2, R⟩ := c
      refine ⟨C, dd, fs, cname, attr, y, e1, e2, te, hd, l1, l2, fun H' T T1 sm n1 n2 hT hT1 => ?_⟩
      refine ⟨_, rfl, T, _, _, _, rfl, rfl, .inl (.inl hT), rfl, rfl, _, rfl, ?_⟩
      have ne : decide (V.str cname = V.str "told") = false := decide_eq_false fun z => tbl_told _ te.tb (V.str.inj z)
      show if (!decide (V.str cname = V.str "told")) = true then _ else _
      rw [ne]
      exact iteT ⟨_, rfl, R H' T T1 sm n1 n2 hT hT1⟩
end
end Own

namespace Own
open PySem L2 PySem.HandSPX
/-- the function at f, called at any later time, raises an error of this name with this value -/
def WillRaise (P : Program) (w : World) (K : PySem.W.Frag) (mg : Str → Option Value) (base : Heap) (cB cM cZ : Addr) (H : Hp) (f : Addr) (cname : Str) (dt : PyData) : Prop := ∃ (sp0 : VK → XK → Hp → Prop), Ask P w K mg base 13 H f sp0 ∧ ∀ H1, Same H H1 → ∀ (Q' : VK) (E' : XK),
  (∀ (C dd : Addr) (attr : Str) (H2 : Hp), ErrOut K H1 H2 dd cname attr dt → ErrTell K cB cM cZ C cname attr → E' (.ref C) (some dd) H2) → sp0 Q' E' H1
theorem WillRaise.same {P : Program} {w : World} {K : PySem.W.Frag} {mg : Str → Option Value} {base : Heap} {cB cM cZ : Addr} {H H' : Hp} {f : Addr} {cname : Str} {dt : PyData} (h : WillRaise P w K mg base cB cM cZ H f cname dt) (sm : Same H H') : WillRaise P w K mg base cB cM cZ H' f cname dt := by
  obtain ⟨sp0, a, k⟩ := h
  exact ⟨sp0, a.same sm, fun H1 s1 => k H1 (sm.trans s1)⟩
def dueD (q : Str × PyData) : PyData := .tuple [.str q.1, .tuple [q.2]]
def spWhys (P : Program) (w : World) (K : PySem.W.Frag) (mg : Str → Option Value) (base : Heap) (cB cM cZ : Addr) : Sp := fun vs H Q _ => ∃ (l : Addr) (fs : List Addr) (dues : List (Str × PyData)), vs = [.ref l] ∧ SqL K H l (fs.map V.ref) ∧ fs.length ≤ 100 ∧ fs.length = dues.length ∧
  (∀ (i : Nat) (f : Addr) (q : Str × PyData), fs[i]? = some f → dues[i]? = some q → WillRaise P w K mg base cB cM cZ H f q.1 q.2) ∧ ∀ H' D, Same H H' → Dp K H' (.ref D) (.list (dues.map dueD)) → Q (.ref D) H'
section
variable {P : Program} {w : World} {K : PySem.W.Frag} {mg : Str → Option Value} {base : Heap}
theorem scWhys : FnScope ["_law_asks", "_law_ask"] ["_law_asks"] (defScope sWhys) := ⟨rfl, rfl, rfl, by decide +kernel, rfl, by decide +kernel, by decide +kernel⟩
theorem ok_whys {f fG cB cM cZ : Addr} {fd fdG : FuncData} (F : Fun K "_law_whys" "_law_whys" sWhys f fd) (GG : FnOk P w K mg base CX0 15 fG fdG ["_law_ask"] (spWhy P w K mg base cB cM cZ)) (mG : mg "_law_why" = some (.ref fG)) (kG : PySem.W.keepIn K (.ref fG) = true) (bG : Binds K fdG ["_law_ask"] []) :
    FnOk P w K mg base CX0 16 f fd ["_law_asks"] (spWhys P w K mg base cB cM cZ) := by
  refine F.ok scWhys (fun vs H Q E h => ?_) (fun cdv A outer s H vs Q E hr h => ?_)
  · obtain ⟨l, fs, dues, rfl, _⟩ := h
    rfl
  · obtain ⟨l, fs, dues, rfl, hl, hz, he, hw, k⟩ := h
    refine ⟨_, pss_one (ps_ret (pe_lc (own := [("_law_ask", 1)]) (g := gName 1) (tt := tYes) rfl scWhys.nd (pi_list (pv 0)) (blkOk_by (N := ["_law_asks", "_law_ask"]) (sc := defScope sWhys) (by decide +kernel))
      (fun _ _ _ _ _ => pg_name (i := 1) scWhys.nd rfl (Or.inl rfl)) (fun _ _ _ _ _ => pts_nil) (fun _ _ _ _ _ => pe_call GG hr rfl mG kG bG .nil pass0 (pa_cons (pv 1) pa_nil)))), ?_⟩
    refine ⟨_, rfl, l, rfl, ⟨_, hl⟩, fun D hD => ?_⟩
    have sD : Same H (upd H D (.lst [])) := (Same.refl _).new hD
    refine lc_list (K := K) (a := l) (xs := fs.map V.ref) (fun i H' => Same H H' ∧ ∃ acc, H' D = some (.lst acc) ∧ DpAll K (cut D (newr H H')) acc ((dues.take i).map dueD)) ⟨sD, [], upd_same, .nil⟩ (fun i H' _ q => q.1.seq hl) ?_ ?_
    · rintro i y H' hi ⟨sm, acc, hacc, hdp⟩
      rw [List.getElem?_map] at hi
      obtain ⟨g, hg, rfl⟩ : ∃ g, fs[i]? = some g ∧ y = V.ref g := by
        cases e : fs[i]? with
        | none => rw [e] at hi; cases hi
        | some g => rw [e] at hi; exact ⟨g, rfl, (Option.some.inj hi).symm⟩
      have hif := (List.getElem?_eq_some_iff.mp hg).1
      have hid : i < dues.length := by omega
      have hq : dues[i]? = some dues[i] := List.getElem?_eq_getElem hid
      obtain ⟨sp0, ask, wr⟩ := (hw i g dues[i] hg hq).same sm
      refine ⟨rfl, _, rfl, g, sp0, rfl, ask, fun Q' E' h1 h2 => wr H' (Same.refl _) Q' E' fun C dd attr H2 eo et => h2 _ _ _ ?_⟩
      obtain ⟨s2, nd, fs', y, hx, l1, l2, hy⟩ := eo
      refine ⟨C, dd, fs', _, attr, y, rfl, rfl, et, hx, l1, l2, fun H3 T T1 s3 nT nT1 hT hT1 => ?_⟩
      have s23 : Same H' H3 := fun b o e => s3 b o (ne_of_none e nd) (s2 _ _ e)
      have nTD : T ≠ D := fun z => by rw [z, s2 _ _ hacc] at nT; cases nT
      have nT1D : T1 ≠ D := fun z => by rw [z, s2 _ _ hacc] at nT1; cases nT1
      have hlen : acc.length = ((dues.take i).map dueD).length := dpAll_len _ _ hdp
      have cu : ∀ b o, b ≠ D → H b = none → H3 b = some o → cut D (newr H (upd H3 D (.lst (acc ++ [V.ref T])))) b = some o := fun b o h1 h2 h3 => by
        unfold cut
        rw [if_neg h1, newr_at h2, upd_ne h1]
        exact h3
      refine ⟨acc, s23 _ _ hacc, ?_, (sm.trans s23).own hD, _, upd_same, ?_⟩
      · rw [hlen, List.length_map, List.length_take]
        have : min i dues.length ≤ 100 := by omega
        exact Nat.lt_of_le_of_lt this (by decide)
      · rw [List.take_add_one, hq, List.map_append]
        refine dpAll_snoc _ _ (dpAll_same (fun b o e => ?_) _ _ hdp) ?_
        · unfold cut at e
          split at e
          · cases e
          · rename_i h1
            obtain ⟨h2, h3⟩ := newr_some e
            exact cu b o h1 h2 (s23 _ _ h3)
        · have hT' := cu T _ nTD (sm.free (s2.free nT)) hT
          have hT1' := cu T1 _ nT1D (sm.free (s2.free nT1)) hT1
          refine .tup (SqT.of hT') (.cons (.str _) (.cons (.tup (SqT.of hT1') (.cons (dp_seqs (fun b o n e => ?_) _ _ hy) .nil)) .nil))
          obtain ⟨h2, h3⟩ := newr_some e
          have h4 : b ≠ dd := fun z => by
            rw [z, hx] at h3
            cases h3
            obtain ⟨xs, h | h | ⟨ob, h⟩ | ⟨ob, h⟩⟩ := n <;> cases h
          exact cu b o (fun z => by rw [z, hacc] at h2; cases h2) (sm.free h2) (s3 _ _ h4 h3)
    · rintro H' ⟨sm, acc, hacc, hdp⟩
      have hz2 : (fs.map V.ref).length = dues.length := by rw [List.length_map]; exact he
      rw [hz2, List.take_length] at hdp
      exact k H' D sm (.lst (SqL.of hacc) (dpAll_same (fun b o e => newr_in _ _ (cut_in _ _ e)) _ _ hdp))
end
end Own

namespace Own
open PySem L2 PySem.HandSPX LamX NdefX
theorem errOut_trk {K : PySem.W.Frag} {S : SO} {H' H2 : Hp} {dd : Addr} {cname attr : Str} {d : PyData} (t : Tracked S H') (n : ∀ b o, S b = some o → H2 b = none) (eo : ErrOut K (utrk S H') H2 dd cname attr d) : ErrOut K H' (trk S H2) dd cname attr d := by
  obtain ⟨sm, nd, fs, y, hx, l1, l2, hy⟩ := eo
  have sd : S dd = none := by
    cases e : S dd with
    | none => rfl
    | some o => have z := n dd o e; rw [hx] at z; cases z
  refine ⟨fun b o hb => ?_, ?_, fs, y, ?_, l1, l2, dp_same (fun b o q => ?_) _ _ hy⟩
  · cases e : S b with
    | none => rw [trk_out e]; exact sm b o (by rw [utrk_out e]; exact hb)
    | some q =>
      rw [t b q e] at hb
      rw [trk_in e]
      exact hb
  · rw [utrk_out sd] at nd
    exact nd
  · rw [trk_out sd]
    exact hx
  · obtain ⟨q1, q2⟩ := newr_some q
    have sb : S b = none := by
      cases e : S b with
      | none => rfl
      | some o' => have z := n b o' e; rw [q2] at z; cases z
    rw [utrk_out sb] at q1
    rw [newr_at q1, trk_out sb]
    exact q2
theorem will_of {X : Cx} {σ : L2.St} {S : SO} {H1 : Hp} {f c' cB cM cZ : Addr} {params : Arguments} {scope : Scope} {body : Expr} {fr : List Str} {js : List Nat} {tb : XK → TE} {cname : Str} {dt : PyData}
    (hS : ∀ b o, S b = some o → H1 b = none) (cs : CellsS X σ S) (hl : H1 f = some (LamO f (lamF X params scope c') body)) (hc : H1 c' = some (CodeO c' (X.env.qual ++ "<lambda>")))
    (hfree : ∀ y ∈ scope.names, y.2 = .free → X.env.scope.names.lookup y.1 = some .cell ∨ X.env.scope.names.lookup y.1 = some .free) (hfr : ∀ y ∈ fr, (y, NameKind.free) ∈ scope.names) (hjs : js.map (fun j => X.N[j]?) = fr.map some) (SN : NScope fr [] fr scope)
    (hbind : ∀ (q : Str) (cl : List (Str × Addr)) (pm cv ctv : Value), bindArgs (PySem.W.kla_fn "<lambda>" q params body scope cl pm cv ctv) ⟨[], []⟩ = pure [])
    (hbody : ∀ (A : Around) (outer : List Env) (s : Shared) (H : Hp) (E : XK), Room 12 (A.deeper (envF (lamF X params scope c') f s.heap.objs.size)) → PE (ncx (L2.CX X.prog X.w) X.prog X.w X.K X.mg X.base fr (lamF X params scope c') f A outer s H E) body (tb E))
    (hread : ∀ H0, Same H1 H0 → ∀ (E : XK) (Q : VK), (∀ (C dd : Addr) (attr : Str) (H2 : Hp), ErrOut X.K H0 H2 dd cname attr dt → ErrTell X.K cB cM cZ C cname attr → E (.ref C) (some dd) H2) → tb E (startF fr [] (js.map (slotAt σ))) H0 Q) :
    WillRaise X.prog X.w X.K X.mg X.base cB cM cZ (trk S H1) f cname dt := by
  have sn : ∀ b u, H1 b = some u → S b = none := fun b u z => by
    cases e : S b with
    | none => rfl
    | some o => rw [hS b o e] at z; cases z
  have nf := sn _ _ hl
  have nc := sn _ _ hc
  refine ⟨fun Q E H' => Same (trk S H1) H' ∧ ∀ (C dd : Addr) (attr : Str) (H2 : Hp), ErrOut X.K H' H2 dd cname attr dt → ErrTell X.K cB cM cZ C cname attr → E (.ref C) (some dd) H2, ?_, fun H1' sm Q' E' k => ⟨sm, k⟩⟩
  refine ask_of (S := S) (F := lamF X params scope c') (body := body) ⟨by rw [trk_out nf]; exact hl, by rw [trk_out (show S (lamF X params scope c').c = none from nc)]; exact hc, trk_tracked⟩
    (askG_lam (N := fr) (fr := fr) (ws := js.map (slotAt σ)) (tb := tb) SN nf nc (fun pm ctv => hbind _ _ _ _ _) (fun h H st => cs scope fr js hfree hfr hjs h H st) hbody fun Q E H' t h => ?_)
  obtain ⟨sm, k⟩ := h
  refine hread (utrk S H') (fun b u z => ?_) _ _ fun C dd attr H2 eo et n => k C dd attr _ (errOut_trk t n eo) et
  have e := sn b u z
  rw [utrk_out e]
  exact sm b u (by rw [trk_out e]; exact z)
end Own

namespace Own
open PySem L2 ClX PySem.HandSPX LamX NdefX
theorem sqT_same {K : PySem.W.Frag} {H H' : Hp} {a : Addr} {xs : List V} (h : SqT K H a xs) (sm : Same H H') : SqT K H' a xs := by
  rcases h with (h | ⟨o, h⟩) | h
  · exact .inl (.inl (sm _ _ h))
  · exact .inl (.inr ⟨o, sm _ _ h⟩)
  · exact .inr h
theorem dpAll_mem {K : PySem.W.Frag} {G : Hp} : ∀ {xs : List V} {ds : List PyData} {x : V}, DpAll K G xs ds → x ∈ xs → ∃ d, d ∈ ds ∧ Dp K G x d
  | _, _, x, .cons h t, hx => by
    rcases List.mem_cons.mp hx with rfl | hx
    · exact ⟨_, List.mem_cons_self .., h⟩
    · obtain ⟨d, hd, hx⟩ := dpAll_mem t hx
      exact ⟨d, List.mem_cons_of_mem _ hd, hx⟩
theorem cut_but {p : Addr} {H H' : Hp} (b : But p H H') : Same (cut p H) (cut p H') := fun c o e => by
  unfold cut at e ⊢
  split at e
  · cases e
  · rename_i n; rw [if_neg n]; exact b c o n e
theorem cut_at {p b : Addr} {H : Hp} {o : HO} (n : b ≠ p) (h : H b = some o) : cut p H b = some o := by
  unfold cut
  rw [if_neg n]; exact h
theorem BagC.lst {H : Hp} {p c : Addr} (b : BagC H p c) : ∃ xs, H p = some (.lst xs) := by
  obtain ⟨cs, i, x, y, h1, _⟩ := b
  exact ⟨_, h1⟩
theorem tabs_but {T : List (Addr × Str)} {H H' : Hp} {p c : Addr} (t : Tabs T H) (b : BagC H p c) (bt : But p H H') : Tabs T H' := fun q hq => by
  obtain ⟨ps, h1, h2, h3⟩ := t q hq
  obtain ⟨xs, hp⟩ := b.lst
  refine ⟨ps, bt _ _ (ne_of h1 hp (fun z => nomatch z)) h1, h2, fun pos cv hc => ?_⟩
  obtain ⟨c0, e1, e2⟩ := h3 pos cv hc
  refine ⟨c0, e1, bt _ _ (ne_of e2 hp (fun z => ?_)) e2⟩
  have z' : HO.ext _ = HO.lst xs := z
  cases z'
theorem tabs_same {T : List (Addr × Str)} {H H' : Hp} (t : Tabs T H) (sm : Same H H') : Tabs T H' := t.ext sm
theorem lamO_ne {f : Addr} {F : NF} {b : Expr} (ps : Array Value) : LamO f F b ≠ .tbl ps := fun z => by
  have z' : HO.ext _ = HO.tbl ps := z
  cases z'
theorem extN_seqs {p : Addr} {H H' : Hp} (e : ExtN H H') : Seqs (cut p H) (cut p H') := fun b o n h => by
  unfold cut at h ⊢
  split at h
  · cases h
  · rename_i nb
    rw [if_neg nb]
    refine e b o h fun ps z => ?_
    subst z
    obtain ⟨xs, h | h | ⟨ob, h⟩ | ⟨ob, h⟩⟩ := n <;> cases h
theorem extN_bag {H H' : Hp} {p c : Addr} (b : BagC H p c) (e : ExtN H H') : BagC H' p c := by
  obtain ⟨cs, i, x, y, h1, h2, h3⟩ := b
  exact ⟨cs, i, x, y, e _ _ h1 (fun ps z => nomatch z), e _ _ h2 (fun ps z => nomatch z), h3⟩
theorem shal_up : ∀ {n : Nat} {d : PyData}, Shal n d → Shal (n + 1) d
  | _, _, .non => .non
  | _, _, .bl b => .bl b
  | _, _, .int i => .int i
  | _, _, .str z => .str z
  | _, _, .lst h l => .lst (fun d hd => shal_up (h d hd)) l
  | _, _, .tup h l => .tup (fun d hd => shal_up (h d hd)) l
theorem utrk_seqs {S : SO} {H : Hp} (t : Tracked S H) : Seqs H (utrk S H) := fun b o n e => by
  cases q : S b with
  | none => rw [utrk_out q]; exact e
  | some o' =>
    rw [t b o' q] at e
    cases e
    exact absurd n exq_sq
theorem utrk_same {S : SO} {H1 H' : Hp} (hS : ∀ b o, S b = some o → H1 b = none) (sm : Same (trk S H1) H') : Same H1 (utrk S H') := fun b u z => by
  have e : S b = none := by
    cases e : S b with
    | none => rfl
    | some o => rw [hS b o e] at z; cases z
  rw [utrk_out e]
  exact sm b u (by rw [trk_out e]; exact z)

theorem sqT_none {K : PySem.W.Frag} {H : Hp} {t : Addr} (h : KT K t []) : SqT K H t [] := .inr h
section
variable {P : Program} {w : World} {K : PySem.W.Frag} {mg : Str → Option Value} {base : Heap}
/-- Line(..): what comes of it -/
theorem ln_end {C : Addr} {cA : Nat → Addr} {H : Hp} {vs xS xW : List V} {ds dS dW : List PyData} {gV : List V → List V} {zs : List V} {aS aW : Addr} {vP vT : V} {dP dT : PyData} {Q : VK} {E : XK} (hz : gV zs = [.ref aS, vP, .ref aW, vT]) (hds : DpAll K H vs ds) (hl : vs.length ≤ 1000) (hsh : ∀ d ∈ ds, Shal 2 d)
    (hS : Sq K H aS xS) (hdS : DpAll K H xS dS) (hsS : ∀ d ∈ dS, Shal 2 d) (hzS : xS.length ≤ sizeLine) (hW : Sq K H aW xW) (hdW : DpAll K H xW dW) (hsW : ∀ d ∈ dW, Shal 2 d ∧ ∀ es, d ≠ .tuple es) (hP : Dp K H vP dP) (hsP : Shal 2 dP) (hT : Dp K H vT dT) (hsT : Shal 2 dT)
    (kE : ∀ n d, lnErr vs.length ds dS dP dW dT = some (n, d) → ∀ dd H', ErrOut K H H' dd (errN n) "given" d → E (.ref (cA n)) (some dd) H')
    (kQ : lnErr vs.length ds dS dP dW dT = none → ∀ (x dx t tS tW : Addr) (ns : List Int) (H' : Hp), H x = none → Same H H' → H' x = some (.ins C dx (lnf t tS vP tW vT)) → ns.Perm (dS.map dInt) → ns.Pairwise (· ≤ ·) → SqT K H' t vs → SqT K H' tS (ns.map V.int) → SqT K H' tW xW → Q (.ref x) H') : tMkS C (spLn K C cA) gV E vs zs H Q := by
  refine ⟨hl, fun x dx p hx hdx n1 hp n2 n3 => ?_⟩
  have sm : Same H (upd (upd (upd H dx (.own x)) x (.ins C dx [])) p (.tup vs)) := fun b o hb => by
    rw [upd_ne (ne_of_none hb hp), upd_ne (ne_of_none hb hx), upd_ne (ne_of_none hb hdx)]
    exact hb
  refine ⟨x, dx, p, aS, aW, vs, xS, xW, ds, dS, dW, vP, vT, dP, dT, by rw [hz]; rfl, ?_, .inl (.inl upd_same), dpAll_same sm _ _ hds, hsh, sq_seqs (Seqs.of sm) hS, dpAll_same sm _ _ hdS, hsS, hzS, sq_seqs (Seqs.of sm) hW, dpAll_same sm _ _ hdW, hsW, dp_same sm _ _ hP, hsP, dp_same sm _ _ hT, hsT, fun n d e dd H' eo => kE n d e dd H' (eo.pre sm), fun e H' tS tW ns q1 q2 pm sr q3 q4 => ⟨rfl, ?_⟩⟩
  · rw [upd_ne (Ne.symm n2), upd_same]
  · exact kQ e x dx p tS tW ns H' hx (fun b o hb => q2 b o (ne_of_none hb hx) (sm _ _ hb)) q1 pm sr (.inl (.inl (q2 p _ n2 upd_same))) q3 q4
end
end Own

namespace Own
open PySem L2 ClX PySem.HandSPX LamX NdefX
section
variable {n : Nat} {ds dS dW : List PyData} {d dP dT : PyData}
theorem lnErr_n (h : ¬ (1 ≤ n ∧ n ≤ 3)) : lnErr n ds dS dP dW dT = some (0, .int n) := by unfold lnErr; rw [if_pos h]
theorem lnErr_r (h : 1 ≤ n ∧ n ≤ 3) (b : firstBad ds 1 3 = some d) : lnErr n ds dS dP dW dT = some (1, d) := by unfold lnErr; rw [if_neg (fun z => z h), b]
theorem lnErr_s (h : 1 ≤ n ∧ n ≤ 3) (b : firstBad ds 1 3 = none) (s : badScan ((n : Int) - 1) [] dS = some d) : lnErr n ds dS dP dW dT = some (3, d) := by unfold lnErr; rw [if_neg (fun z => z h), b]; dsimp only; rw [s]
theorem lnErr_p (h : 1 ≤ n ∧ n ≤ 3) (b : firstBad ds 1 3 = none) (s : badScan ((n : Int) - 1) [] dS = none) (p : slipsOk dP = false) : lnErr n ds dS dP dW dT = some (1, dP) := by unfold lnErr; rw [if_neg (fun z => z h), b]; dsimp only; rw [s]; dsimp only; rw [if_pos p]
theorem lnErr_w (h : 1 ≤ n ∧ n ≤ 3) (b : firstBad ds 1 3 = none) (s : badScan ((n : Int) - 1) [] dS = none) (p : slipsOk dP = true) (w : badWord slipW dW = some d) : lnErr n ds dS dP dW dT = some (2, d) := by
  unfold lnErr; rw [if_neg (fun z => z h), b]; dsimp only; rw [s]; dsimp only; rw [if_neg (by rw [p]; simp), w]
theorem lnErr_t (h : 1 ≤ n ∧ n ≤ 3) (b : firstBad ds 1 3 = none) (s : badScan ((n : Int) - 1) [] dS = none) (p : slipsOk dP = true) (w : badWord slipW dW = none) (t : strOk dT = false) : lnErr n ds dS dP dW dT = some (1, dT) := by
  unfold lnErr; rw [if_neg (fun z => z h), b]; dsimp only; rw [s]; dsimp only; rw [if_neg (by rw [p]; simp), w]; dsimp only; rw [if_pos t]
theorem lnErr_0 (h : 1 ≤ n ∧ n ≤ 3) (b : firstBad ds 1 3 = none) (s : badScan ((n : Int) - 1) [] dS = none) (p : slipsOk dP = true) (w : badWord slipW dW = none) (t : strOk dT = true) : lnErr n ds dS dP dW dT = none := by
  unfold lnErr; rw [if_neg (fun z => z h), b]; dsimp only; rw [s]; dsimp only; rw [if_neg (by rw [p]; simp), w]; dsimp only; rw [if_neg (by rw [t]; simp)]
end
def dP0 : PyData := .tuple [.int 1, .int 4]
def dW0 : List PyData := slipW.map PyData.str
theorem shal_of_flat {d : PyData} (h : (∃ n, d = .int n) ∨ (∃ z, d = .str z) ∨ (∃ b, d = .bool b) ∨ d = .none) {k : Nat} : Shal k d := by
  rcases h with ⟨n, rfl⟩ | ⟨z, rfl⟩ | ⟨b, rfl⟩ | rfl
  · exact .int _
  · exact .str _
  · exact .bl _
  · exact .non
section
variable {P : Program} {w : World} {K : PySem.W.Frag} {mg : Str → Option Value} {base : Heap} {f a0 a1 a2 : Addr} {H : Hp}
theorem df_S (I : LnInit K f a0 a1 a2) : Sq K H a0 [] := .inr (.inr I.k0)
theorem df_P (I : LnInit K f a0 a1 a2) : Dp K H (.ref a1) dP0 := .tup (.inr I.k1) (.cons (.int _) (.cons (.int _) .nil))
theorem sh_P : Shal 2 dP0 := .tup (fun d hd => by
  simp only [List.mem_cons, List.not_mem_nil, or_false] at hd
  rcases hd with rfl | rfl <;> exact .int _) (by decide)
theorem df_W (I : LnInit K f a0 a1 a2) : Sq K H a2 (slipW.map V.str) := .inr (.inr I.k2)
theorem df_dW : DpAll K H (slipW.map V.str) dW0 := .cons (.str _) (.cons (.str _) (.cons (.str _) .nil))
theorem df_sW : ∀ d ∈ dW0, Shal 2 d ∧ ∀ es, d ≠ .tuple es := fun d hd => by
  obtain ⟨z, _, rfl⟩ := List.mem_map.mp hd
  exact ⟨.str _, fun es q => nomatch q⟩
/-- Line(..) with something wrong -/
theorem ln_err {C : Addr} {cA : Nat → Addr} {vs xS xW : List V} {ds dS dW : List PyData} {gV : List V → List V} {zs : List V} {aS aW : Addr} {vP vT : V} {dP dT d : PyData} {n : Nat} {Q : VK} {E : XK} (hz : gV zs = [.ref aS, vP, .ref aW, vT]) (hds : DpAll K H vs ds) (hl : vs.length ≤ 1000) (hsh : ∀ d ∈ ds, Shal 2 d)
    (hS : Sq K H aS xS) (hdS : DpAll K H xS dS) (hsS : ∀ d ∈ dS, Shal 2 d) (hzS : xS.length ≤ sizeLine) (hW : Sq K H aW xW) (hdW : DpAll K H xW dW) (hsW : ∀ d ∈ dW, Shal 2 d ∧ ∀ es, d ≠ .tuple es) (hP : Dp K H vP dP) (hsP : Shal 2 dP) (hT : Dp K H vT dT) (hsT : Shal 2 dT)
    (he : lnErr vs.length ds dS dP dW dT = some (n, d)) (k : ∀ dd H', ErrOut K H H' dd (errN n) "given" d → E (.ref (cA n)) (some dd) H') : tMkS C (spLn K C cA) gV E vs zs H Q :=
  ln_end hz hds hl hsh hS hdS hsS hzS hW hdW hsW hP hsP hT hsT (fun n' d' e => by rw [he] at e; cases e; exact k) (fun e => by rw [he] at e; cases e)
end
end Own

namespace Own
open PySem L2 ClX PySem.HandSPX LamX NdefX
def EF : XK := fun _ _ _ => False
theorem passF {P : Program} {w : World} {X : Cx} : Passes (L2.CX P w) X EF := fun _ _ _ _ _ _ _ h => by
  obtain ⟨_, _, _, _, _, _, _, _, _, _, _, _, z⟩ := h
  exact z.elim
abbrev sLG (i : Nat) : Stmt := inClass (topT 25) i
def spGet (C : Addr) (f : Str) : Sp := fun vs H Q _ => ∃ a dx fs v, vs = [.ref a] ∧ H a = some (.ins C dx fs) ∧ fs.lookup f = some v ∧ Q v H
def spWordsL (K : PySem.W.Frag) (C : Addr) : Sp := fun vs H Q _ => ∃ a dx fs t xs, vs = [.ref a] ∧ H a = some (.ins C dx fs) ∧ fs.lookup ("_words" : Str) = some (.ref t) ∧ SqT K H t xs ∧ ∀ l, H l = none → Q (.ref l) (upd H l (.lst xs))
section
variable {P : Program} {w : World} {K : PySem.W.Frag} {mg : Str → Option Value} {base : Heap} {f C : Addr} {fd : FuncData}
theorem scLW : FnScope ["self"] ["self"] (defScope (sLG 4)) := ⟨rfl, rfl, rfl, by decide +kernel, rfl, by decide +kernel, by decide +kernel⟩
theorem ok_words (F : Fun K "words" "Line.words" (sLG 4) f fd) (T : LnF K mg C) (zL : mg "list" = none) : FnOk P w K mg base CX0 1 f fd ["self"] (spWordsL K C) := by
  refine F.ok scLW (fun vs H Q E h => ?_) (fun cdv A outer s H vs Q E hr h => ?_)
  · obtain ⟨a, dx, fs, t, xs, rfl, _⟩ := h
    rfl
  · obtain ⟨a, dx, fs, t, xs, rfl, ha, hl, ht, k⟩ := h
    refine ⟨_, pss_one (ps_ret (pe_callTy call_list_of (by rfl) zL (by decide +kernel) (pa_cons (pe_fld (pv 0) rfl) pa_nil))), ?_⟩
    exact ⟨_, rfl, a, C, dx, _, _, rfl, ha, T.cl, T.n4, hl, t, _, rfl, .inr ht, k⟩
theorem scLS : FnScope ["self"] ["self"] (defScope (sLG 5)) := ⟨rfl, rfl, rfl, by decide +kernel, rfl, by decide +kernel, by decide +kernel⟩
theorem ok_slips (F : Fun K "slips" "Line.slips" (sLG 5) f fd) (T : LnF K mg C) : FnOk P w K mg base CX0 1 f fd ["self"] (spGet C "_slips") := by
  refine F.ok scLS (fun vs H Q E h => ?_) (fun cdv A outer s H vs Q E hr h => ?_)
  · obtain ⟨a, dx, fs, v, rfl, _⟩ := h
    rfl
  · obtain ⟨a, dx, fs, v, rfl, ha, hl, k⟩ := h
    refine ⟨_, pss_one (ps_ret (pe_fld (pv 0) rfl)), ?_⟩
    exact ⟨_, rfl, a, C, dx, _, _, rfl, ha, T.cl, T.n3, hl, k⟩
theorem scLT : FnScope ["self"] ["self"] (defScope (sLG 6)) := ⟨rfl, rfl, rfl, by decide +kernel, rfl, by decide +kernel, by decide +kernel⟩
theorem ok_stretch (F : Fun K "stretch" "Line.stretch" (sLG 6) f fd) (T : LnF K mg C) : FnOk P w K mg base CX0 1 f fd ["self"] (spGet C "_stretch") := by
  refine F.ok scLT (fun vs H Q E h => ?_) (fun cdv A outer s H vs Q E hr h => ?_)
  · obtain ⟨a, dx, fs, v, rfl, _⟩ := h
    rfl
  · obtain ⟨a, dx, fs, v, rfl, ha, hl, k⟩ := h
    refine ⟨_, pss_one (ps_ret (pe_fld (pv 0) rfl)), ?_⟩
    exact ⟨_, rfl, a, C, dx, _, _, rfl, ha, T.cl, T.n5, hl, k⟩
end
end Own

namespace Own
open PySem L2
/-! ### what may be compared, and what comes of it -/
mutual
theorem shal_depth : ∀ {n : Nat} {d : PyData}, Shal n d → PyData.depth d ≤ n + 1
  | _, .none, _ => by simp [PyData.depth]
  | _, .bool b, _ => by simp [PyData.depth]
  | _, .int i, _ => by simp [PyData.depth]
  | _, .str s, _ => by simp [PyData.depth]
  | n + 1, .list ds, h => by
    have h' : ∀ d ∈ ds, Shal n d := by cases h with | lst h l => exact h
    have := shalAll_depth ds h'
    simp only [PyData.depth]; omega
  | n + 1, .tuple ds, h => by
    have h' : ∀ d ∈ ds, Shal n d := by cases h with | tup h l => exact h
    have := shalAll_depth ds h'
    simp only [PyData.depth]; omega
  | 0, .list ds, h => by cases h
  | 0, .tuple ds, h => by cases h
  | _, .dict k, h => by cases h
theorem shalAll_depth : ∀ {n : Nat} (ds : List PyData), (∀ d ∈ ds, Shal n d) → PyData.depthAll ds ≤ n + 1
  | _, [], _ => by simp [PyData.depthAll]
  | n, d :: ds, h => by
    have h1 := shal_depth (h d (List.mem_cons_self ..))
    have h2 := shalAll_depth ds fun e he => h e (List.mem_cons_of_mem _ he)
    simp only [PyData.depthAll]; omega
end
theorem shal_shaped {n : Nat} {d : PyData} (h : Shal n d) (hn : n ≤ 60) (hc : PyData.canLay0 d = true) : SeqAt.shaped d = true := by
  have h2 := shal_depth h
  show (PyData.canLay0 d && decide (PyData.depth d ≤ 64)) = true
  rw [Bool.and_eq_true]
  exact ⟨hc, decide_eq_true (by omega)⟩
mutual
/-- no bool in it -/
def noBl : PyData → Bool
  | .bool _ => false
  | .list ds => noBls ds
  | .tuple ds => noBls ds
  | .dict _ => false
  | _ => true
def noBls : List PyData → Bool
  | [] => true
  | d :: ds => noBl d && noBls ds
end
mutual
theorem eqv_dec : ∀ (d e : PyData), noBl d = true → noBl e = true → (PyData.eqv d e = true ↔ d = e)
  | .none, e, _, he => by cases e <;> simp_all [PyData.eqv, noBl]
  | .bool _, e, h, _ => by simp [noBl] at h
  | .int i, e, _, he => by cases e <;> simp_all [PyData.eqv, noBl]
  | .str i, e, _, he => by cases e <;> simp_all [PyData.eqv, noBl]
  | .dict _, e, h, _ => by simp [noBl] at h
  | .list ds, .list es, h, he => by
    simp only [PyData.eqv, PyData.list.injEq]
    exact eqvs_dec ds es (by simpa [noBl] using h) (by simpa [noBl] using he)
  | .tuple ds, .tuple es, h, he => by
    simp only [PyData.eqv, PyData.tuple.injEq]
    exact eqvs_dec ds es (by simpa [noBl] using h) (by simpa [noBl] using he)
  | .list ds, .none, _, _ => by simp [PyData.eqv]
  | .list ds, .bool _, _, h => by simp [noBl] at h
  | .list ds, .int _, _, _ => by simp [PyData.eqv]
  | .list ds, .str _, _, _ => by simp [PyData.eqv]
  | .list ds, .tuple _, _, _ => by simp [PyData.eqv]
  | .list ds, .dict _, _, h => by simp [noBl] at h
  | .tuple ds, .none, _, _ => by simp [PyData.eqv]
  | .tuple ds, .bool _, _, h => by simp [noBl] at h
  | .tuple ds, .int _, _, _ => by simp [PyData.eqv]
  | .tuple ds, .str _, _, _ => by simp [PyData.eqv]
  | .tuple ds, .list _, _, _ => by simp [PyData.eqv]
  | .tuple ds, .dict _, _, h => by simp [noBl] at h
theorem eqvs_dec : ∀ (ds es : List PyData), noBls ds = true → noBls es = true → (PyData.eqvAll ds es = true ↔ ds = es)
  | [], [], _, _ => by simp [PyData.eqvAll]
  | [], _ :: _, _, _ => by simp [PyData.eqvAll]
  | _ :: _, [], _, _ => by simp [PyData.eqvAll]
  | d :: ds, e :: es, h, he => by
    simp only [noBls, Bool.and_eq_true] at h he
    simp only [PyData.eqvAll, Bool.and_eq_true, List.cons.injEq]
    rw [eqv_dec d e h.1 he.1, eqvs_dec ds es h.2 he.2]
end
theorem eqv_bool {d e : PyData} (hd : noBl d = true) (he : noBl e = true) [Decidable (d = e)] : PyData.eqv d e = decide (d = e) := by
  have z := eqv_dec d e hd he
  cases q : PyData.eqv d e with
  | true => exact (decide_eq_true (z.mp q)).symm
  | false => exact (decide_eq_false (fun c => by rw [z.mpr c] at q; cases q)).symm
/-! ### lists of numbers, lists of words as data -/
def intD (ns : List Int) : List PyData := ns.map PyData.int
def strD (zs : List Str) : List PyData := zs.map PyData.str
theorem dpI {K : PySem.W.Frag} {H : Hp} : ∀ ns : List Int, DpAll K H (ns.map V.int) (intD ns)
  | [] => .nil
  | n :: ns => .cons (.int n) (dpI ns)
theorem dpS {K : PySem.W.Frag} {H : Hp} : ∀ ns : List Str, DpAll K H (ns.map V.str) (strD ns)
  | [] => .nil
  | n :: ns => .cons (.str n) (dpS ns)
theorem shI {n : Nat} {ns : List Int} : ∀ d ∈ intD ns, Shal n d := fun d hd => by
  obtain ⟨i, _, rfl⟩ := List.mem_map.mp hd
  exact .int i
theorem shS {n : Nat} {ns : List Str} : ∀ d ∈ strD ns, Shal n d := fun d hd => by
  obtain ⟨i, _, rfl⟩ := List.mem_map.mp hd
  exact .str i
theorem shLI {n : Nat} {ns : List Int} (h : ns.length ≤ 1000) : Shal (n + 1) (.list (intD ns)) := .lst shI (by unfold intD; rw [List.length_map]; exact h)
theorem shTI {n : Nat} {ns : List Int} (h : ns.length ≤ 1000) : Shal (n + 1) (.tuple (intD ns)) := .tup shI (by unfold intD; rw [List.length_map]; exact h)
theorem shLS {n : Nat} {ns : List Str} (h : ns.length ≤ 1000) : Shal (n + 1) (.list (strD ns)) := .lst shS (by unfold strD; rw [List.length_map]; exact h)
theorem shTS {n : Nat} {ns : List Str} (h : ns.length ≤ 1000) : Shal (n + 1) (.tuple (strD ns)) := .tup shS (by unfold strD; rw [List.length_map]; exact h)
theorem nbI : ∀ ns : List Int, noBls (intD ns) = true
  | [] => by simp [intD, noBls]
  | n :: ns => by
    have := nbI ns
    simp only [intD, List.map_cons, noBls, noBl, Bool.true_and] at this ⊢
    exact this
theorem nbS : ∀ ns : List Str, noBls (strD ns) = true
  | [] => by simp [strD, noBls]
  | n :: ns => by
    have := nbS ns
    simp only [strD, List.map_cons, noBls, noBl, Bool.true_and] at this ⊢
    exact this
theorem intD_inj {a b : List Int} : intD a = intD b ↔ a = b := by
  unfold intD
  constructor
  · intro h
    induction a generalizing b with
    | nil => cases b with
      | nil => rfl
      | cons _ _ => cases h
    | cons x a ih => cases b with
      | nil => cases h
      | cons y b =>
        rw [List.map_cons, List.map_cons] at h
        injection h with h1 h2
        injection h1 with h1
        rw [h1, ih h2]
  · rintro rfl; rfl
theorem strD_inj {a b : List Str} : strD a = strD b ↔ a = b := by
  unfold strD
  constructor
  · intro h
    induction a generalizing b with
    | nil => cases b with
      | nil => rfl
      | cons _ _ => cases h
    | cons x a ih => cases b with
      | nil => cases h
      | cons y b =>
        rw [List.map_cons, List.map_cons] at h
        injection h with h1 h2
        injection h1 with h1
        rw [h1, ih h2]
  · rintro rfl; rfl
theorem canI : ∀ ns : List Int, PyData.canLayAll0 (intD ns) = true
  | [] => by simp [intD, PyData.canLayAll0]
  | n :: r => by
    have := canI r
    simp only [intD, List.map_cons, PyData.canLayAll0, PyData.canLay0, Bool.true_and] at this ⊢
    exact this
theorem canS : ∀ zs : List Str, (∀ z ∈ zs, PyData.strOk z = true) → PyData.canLayAll0 (strD zs) = true
  | [], _ => by simp [strD, PyData.canLayAll0]
  | n :: r, h => by
    have := canS r fun z hz => h z (List.mem_cons_of_mem _ hz)
    simp only [strD, List.map_cons, PyData.canLayAll0, PyData.canLay0, Bool.and_eq_true] at this ⊢
    exact ⟨h n (List.mem_cons_self ..), this⟩
theorem slip_ok {ws : List Str} (h : ws.Sublist slipW) : ∀ z ∈ ws, PyData.strOk z = true := fun z hz => by
  have := h.subset hz
  unfold slipW at this
  simp only [List.mem_cons, List.not_mem_nil, or_false] at this
  rcases this with rfl | rfl | rfl <;> decide +kernel
def optD : Option Int → PyData
  | none => .none
  | some n => .int n
end Own

namespace Own
open PySem L2 ClX
abbrev sSlipW2 : Stmt := topT 39
theorem But.new {p l : Addr} {H H' : Hp} {o : HO} (a : But p H H') (h : H l = none) : But p H (L2.upd H' l o) := fun b u n e => by
  rw [upd_ne (ne_of_none e h)]; exact a b u n e
theorem But.free {p l : Addr} {H H' : Hp} (a : But p H H') (n : l ≠ p) (h : H' l = none) : H l = none := by
  cases e : H l with
  | none => rfl
  | some o => rw [a l o n e] at h; cases h
theorem But.new' {p l : Addr} {H H' : Hp} {o : HO} (a : But p H H') (h : H l = none) : But p H (L2.upd H' l o) := a.new h
def spSlipD : Sp := fun vs H Q _ => ∃ (p c : Addr), vs = [.ref p] ∧ BagC H p c ∧ ∀ H' l (ws : List Str), But p H H' → BagC H' p c → H l = none → H' l = some (.lst (ws.map V.str)) → ws.Sublist slipW → Q (.ref l) H'
theorem sub_keep {ws : List Str} {i : Nat} {z : Str} (h : ws.Sublist (slipW.take i)) (hz : slipW[i]? = some z) : (ws ++ [z]).Sublist (slipW.take (i + 1)) := by
  rw [List.take_add_one, hz]
  exact h.append (List.Sublist.refl _)
theorem sub_skip {ws : List Str} {i : Nat} (h : ws.Sublist (slipW.take i)) : ws.Sublist (slipW.take (i + 1)) := by
  rw [List.take_add_one]
  exact h.trans (List.sublist_append_left _ _)
section
variable {P : Program} {w : World} {K : PySem.W.Frag} {mg : Str → Option Value} {base : Heap}
theorem scSlipW2 : FnScope ["_law_bag_here", "_law_word"] ["_law_bag_here"] (defScope sSlipW2) := ⟨rfl, rfl, rfl, by decide +kernel, rfl, by decide +kernel, by decide +kernel⟩
theorem ok_slipD {f fD : Addr} {fd fdD : FuncData} (F : Fun K "_law_slip_words" "_law_slip_words" sSlipW2 f fd) (G : FnOk P w K mg base CX0 1 fD fdD ["_law_bag_here", "_law_many"] spDraw) (mD : mg "_law_draw" = some (.ref fD)) (kD : PySem.W.keepIn K (.ref fD) = true) (bD : Binds K fdD ["_law_bag_here", "_law_many"] []) : FnOk P w K mg base CX0 2 f fd ["_law_bag_here"] spSlipD := by
  refine F.ok scSlipW2 (fun vs H Q E h => ?_) (fun cdv A outer s H vs Q E hr h => ?_)
  · obtain ⟨p, c, rfl, _⟩ := h
    rfl
  · obtain ⟨p, c, rfl, hb, k⟩ := h
    refine ⟨_, pss_one (ps_ret (pe_lc (own := [("_law_word", 1)]) (g := gName 1) rfl scSlipW2.nd (pi_list (pe_lst (pa_cons pe_str (pa_cons pe_str (pa_cons pe_str pa_nil))))) (blkOk_by (N := ["_law_bag_here", "_law_word"]) (sc := defScope sSlipW2) (by decide +kernel))
      (fun _ _ _ _ _ => pg_name (i := 1) scSlipW2.nd rfl (Or.inl rfl)) (fun _ _ _ _ _ => pts_one (pt_cmpR op_gt (pe_call G hr rfl mD kD bD .nil pass0 (pa_cons (pv 0) (pa_cons pe_int pa_nil))) pe_int (nomark _))) (fun _ _ _ _ _ => pv 1))), ?_⟩
    refine ⟨by show 3 ≤ sizeLine; decide, fun l hl => ⟨l, rfl, ⟨_, SqL.of upd_same⟩, fun D hD => ?_⟩⟩
    obtain ⟨nlp, nlc⟩ := hb.ne hl
    have hD0 : H D = none := by
      by_cases e : D = l
      · rw [e, upd_same] at hD; cases hD
      · rw [upd_ne e] at hD; exact hD
    have nDl : D ≠ l := fun e => by rw [e, upd_same] at hD; cases hD
    obtain ⟨nDp, nDc⟩ := hb.ne hD0
    refine lc_list (K := K) (a := l) (xs := slipW.map V.str) (fun i H' => But p H H' ∧ BagC H' p c ∧ H' l = some (.lst (slipW.map V.str)) ∧ ∃ ws : List Str, H' D = some (.lst (ws.map V.str)) ∧ ws.Sublist (slipW.take i)) ⟨?_, ?_, ?_, [], upd_same, List.Sublist.refl _⟩ (fun i H' _ q => .inl (.inl q.2.2.1)) ?_ ?_
    · exact But.of (((Same.refl H).new hl).new hD)
    · exact (hb.new hl).new hD
    · rw [upd_ne (Ne.symm nDl), upd_same]
      rfl
    · rintro i y H' hi ⟨q1, q2, q3, ws, q4, q5⟩
      have h3 : i < 3 := (List.getElem?_eq_some_iff.mp hi).1
      have hl5 : ws.length ≤ 3 := Nat.le_trans q5.length_le (by rw [List.length_take]; exact Nat.min_le_right _ _)
      obtain ⟨z, hz, rfl⟩ : ∃ z, slipW[i]? = some z ∧ y = V.str z := by
        rw [List.getElem?_map] at hi
        cases e : slipW[i]? with
        | none => rw [e] at hi; cases hi
        | some z => rw [e] at hi; exact ⟨z, rfl, (Option.some.inj hi).symm⟩
      refine ⟨rfl, _, rfl, p, 3, c, rfl, q2, by decide, by decide, fun H2 r b1 b2 r0 r1 => ?_⟩
      have d4 := b1 _ _ nDp q4
      have d3 := b1 _ _ nlp q3
      refine ⟨r, 0, rfl, rfl, _, rfl, ite2 (fun c => ?_) (fun c => ?_)⟩
      · refine ⟨_, rfl, _, d4, by rw [List.length_map]; exact Nat.lt_of_le_of_lt hl5 (by decide), (q1.trans b1).new hD0, b2.upd nDp nDc, ?_, ws ++ [z], by rw [upd_same, List.map_append]; rfl, sub_keep q5 hz⟩
        rw [upd_ne (Ne.symm nDl)]; exact d3
      · exact ⟨q1.trans b1, b2, d3, ws, d4, sub_skip q5⟩
    · rintro H' ⟨q1, q2, q3, ws, q4, q5⟩
      exact k H' D ws q1 q2 hD0 q4 q5
end
end Own

namespace Own
open PySem L2 ClX
/-- a plan that the law has drawn -/
structure Plan where
  belts : List Int
  scans : List Int
  most : Int
  among : Int
  words : List Str
  stretch : Option Int
  rooms : List Int
  seek : Int
  empty : Str
  strange : Str
  pause : Str
def optV : Option Int → V
  | none => .non
  | some n => .int n
structure PlanOk (m w : Nat) (pl : Plan) : Prop where
  n1 : 1 ≤ pl.belts.length
  n2 : pl.belts.length ≤ m
  bl : ∀ x ∈ pl.belts, 1 ≤ x ∧ x ≤ w
  sc : pl.scans.Pairwise (· < ·)
  sr : ∀ x ∈ pl.scans, 1 ≤ x ∧ x < pl.belts.length
  m0 : 0 ≤ pl.most
  m1 : pl.most ≤ w
  a0 : 1 ≤ pl.among
  a1 : pl.among ≤ 2 * w
  ws : pl.words.Sublist slipW
  st : pl.stretch = none ∨ ∃ k : Int, pl.stretch = some k ∧ 1 ≤ k ∧ k ≤ 3
  rl : pl.rooms.length = pl.belts.length
  rm : ∀ x ∈ pl.rooms, 1 ≤ x ∧ x ≤ w + 1
  s0 : 0 ≤ pl.seek
  s1 : pl.seek ≤ w
  em : pl.empty = "blank" ∨ pl.empty = "none"
  sg : pl.strange = "first" ∨ pl.strange = "none"
  pa : pl.pause = "clear" ∨ pl.pause = "keep"
def planK (a b c d e f g h i j : V) : List (Key × V) := [(Sum.inr "belts", a), (Sum.inr "scans", b), (Sum.inr "slips", c), (Sum.inr "words", d), (Sum.inr "stretch", e), (Sum.inr "rooms", f), (Sum.inr "seek", g), (Sum.inr "empty", h), (Sum.inr "strange", i), (Sum.inr "pause", j)]
/-- the plan pl stands at D, its parts at b, s, t, w, r; xs is what stands as its scans -/
structure PlanH (H : Hp) (D b s t w r : Addr) (pl : Plan) : Prop where
  dk : H D = some (.dK (planK (.ref b) (.ref s) (.ref t) (.ref w) (optV pl.stretch) (.ref r) (.int pl.seek) (.str pl.empty) (.str pl.strange) (.str pl.pause)))
  hb : H b = some (.lst (pl.belts.map V.int))
  hs : H s = some (.lst (pl.scans.map V.int))
  ht : H t = some (.tup [.int pl.most, .int pl.among])
  hw : H w = some (.lst (pl.words.map V.str))
  hr : H r = some (.lst (pl.rooms.map V.int))
theorem PlanH.keep {H H' : Hp} {D b s t w r : Addr} {pl : Plan} (h : PlanH H D b s t w r pl) (e : Same H H') : PlanH H' D b s t w r pl := ⟨e _ _ h.dk, e _ _ h.hb, e _ _ h.hs, e _ _ h.ht, e _ _ h.hw, e _ _ h.hr⟩
theorem merge_new : ∀ {more kvs : List (Key × V)}, ((kvs ++ more).map (·.1)).Nodup → mergeK kvs more = kvs ++ more
  | [], kvs, _ => (List.append_nil kvs).symm
  | x :: r, kvs, h => by
    have hx : valV kvs x.1 = none := by
      cases q : valV kvs x.1 with
      | none => rfl
      | some v =>
        unfold valV at q
        cases z : kvs.find? (fun kv => decide (kv.1 = x.1)) with
        | none => rw [z] at q; cases q
        | some y =>
          have h1 := List.mem_of_find?_eq_some z
          have h2 := of_decide_eq_true (List.find?_some (p := fun kv : Key × V => decide (kv.1 = x.1)) z)
          rw [List.map_append, List.nodup_append] at h
          exact absurd h2 (h.2.2 _ (List.mem_map_of_mem h1) _ (List.mem_cons_self ..))
    have e : putK kvs x.1 x.2 = kvs ++ [x] := by
      unfold putK
      rw [valV_any, hx]
      rfl
    show mergeK (putK kvs x.1 x.2) r = kvs ++ x :: r
    rw [e, merge_new (by rw [List.append_assoc]; exact h), List.append_assoc]
    rfl
theorem plan_merge (a b c d e f g h i j : V) : mergeK [] (planK a b c d e f g h i j) = planK a b c d e f g h i j := merge_new (by
  show ([Sum.inr "belts", Sum.inr "scans", Sum.inr "slips", Sum.inr "words", Sum.inr "stretch", Sum.inr "rooms", Sum.inr "seek", Sum.inr "empty", Sum.inr "strange", Sum.inr "pause"] : List Key).Nodup
  decide +kernel)
/-- while the display is made -/
structure Mid (H0 H : Hp) (p c d : Addr) : Prop where
  but : But p H0 H
  bag : BagC H p c
  dk : H d = some (.dK [])
  fr : H0 d = none
namespace Mid
variable {H0 H H' : Hp} {p c d l : Addr}
theorem dp (m : Mid H0 H p c d) : d ≠ p := by
  obtain ⟨cs, i, x, y, h1, _⟩ := m.bag
  exact ne_of m.dk h1 (fun z => nomatch z)
theorem dc (m : Mid H0 H p c d) : d ≠ c := by
  obtain ⟨cs, i, x, y, _, h1, _⟩ := m.bag
  exact ne_of m.dk h1 (fun z => nomatch z)
theorem draw (m : Mid H0 H p c d) (b1 : But p H H') (b2 : BagC H' p c) : Mid H0 H' p c d := ⟨m.but.trans b1, b2, b1 _ _ m.dp m.dk, m.fr⟩
theorem new {o : HO} (m : Mid H0 H p c d) (h : H l = none) : Mid H0 (upd H l o) p c d := by
  have n := m.bag.ne h
  exact ⟨m.but.new (m.but.free n.1 h), m.bag.new h, by rw [upd_ne (ne_of_none m.dk h)]; exact m.dk, m.fr⟩
theorem put {o : HO} (m : Mid H0 H p c d) (h0 : H0 l = none) (n1 : l ≠ p) (n2 : l ≠ c) (n3 : l ≠ d) : Mid H0 (upd H l o) p c d :=
  ⟨m.but.new h0, m.bag.upd n1 n2, by rw [upd_ne (Ne.symm n3)]; exact m.dk, m.fr⟩
theorem free (m : Mid H0 H p c d) (h : H l = none) : H0 l = none := m.but.free (m.bag.ne h).1 h
theorem nd (m : Mid H0 H p c d) (h : H l = none) : l ≠ d := Ne.symm (ne_of_none m.dk h)
end Mid
/-- a list of draws, each 1 more, at D -/
def Drawn (H : Hp) (D : Addr) (n : Nat) (hi : Int) : Prop := ∃ rs : List Int, H D = some (.lst (rs.map V.int)) ∧ rs.length = n ∧ ∀ r, r ∈ rs → 1 ≤ r ∧ r ≤ hi
theorem Drawn.step {H : Hp} {D : Addr} {i : Nat} {r hi : Int} (h : Drawn H D i hi) (hl : i < 5) (r0 : 0 ≤ r) (r1 : r < hi) : ∃ acc, H D = some (.lst acc) ∧ acc.length < sizeLine ∧ Drawn (upd H D (.lst (acc ++ [V.int (1 + r)]))) D (i + 1) hi := by
  obtain ⟨rs, e, l, a⟩ := h
  refine ⟨_, e, ?_, rs ++ [1 + r], ?_, ?_, fun x hx => ?_⟩
  · rw [List.length_map, l]
    exact Nat.lt_trans hl (by decide)
  · rw [upd_same, List.map_append]
    rfl
  · rw [List.length_append, l]
    rfl
  · rcases List.mem_append.mp hx with hx | hx
    · exact a x hx
    · obtain rfl := List.mem_singleton.mp hx
      omega
/-- the points from 1 on, some of them left out, at D -/
def Scd (H : Hp) (D : Addr) (i : Nat) : Prop := ∃ ss : List Int, H D = some (.lst (ss.map V.int)) ∧ ss.length ≤ i ∧ ss.Pairwise (· < ·) ∧ ∀ x ∈ ss, 1 ≤ x ∧ x < 1 + (i : Int)
theorem Scd.step {H : Hp} {D : Addr} {i : Nat} (h : Scd H D i) (hl : i < 5) : ∃ acc, H D = some (.lst acc) ∧ acc.length < sizeLine ∧ Scd (upd H D (.lst (acc ++ [V.int (1 + (i : Int))]))) D (i + 1) := by
  obtain ⟨ss, e, l, a, b⟩ := h
  refine ⟨_, e, ?_, ss ++ [1 + (i : Int)], ?_, ?_, ?_, fun x hx => ?_⟩
  · rw [List.length_map]
    exact Nat.lt_of_le_of_lt l (Nat.lt_trans hl (by decide))
  · rw [upd_same, List.map_append]
    rfl
  · rw [List.length_append]
    exact Nat.succ_le_succ l
  · rw [List.pairwise_append]
    refine ⟨a, List.pairwise_singleton _ _, fun x hx y hy => ?_⟩
    obtain rfl := List.mem_singleton.mp hy
    exact (b x hx).2
  · rcases List.mem_append.mp hx with hx | hx
    · have := b x hx
      omega
    · obtain rfl := List.mem_singleton.mp hx
      omega
theorem Scd.skip {H : Hp} {D : Addr} {i : Nat} (h : Scd H D i) : Scd H D (i + 1) := by
  obtain ⟨ss, e, l, a, b⟩ := h
  exact ⟨ss, e, Nat.le_succ_of_le l, a, fun x hx => by have := b x hx; omega⟩
abbrev sPlan : Stmt := topT 40
def spPlan : Sp := fun vs H Q _ => ∃ (p c : Addr) (m w : Nat), vs = [.ref p, .int m, .int w] ∧ BagC H p c ∧ 1 ≤ m ∧ m ≤ 3 ∧ 1 ≤ w ∧ w ≤ 3 ∧ ∀ H' D b s t wd r pl, But p H H' → BagC H' p c → H D = none → H b = none → H s = none → H t = none → H wd = none → H r = none → PlanH H' D b s t wd r pl → PlanOk m w pl → Q (.ref D) H'
section
variable {P : Program} {w : World} {K : PySem.W.Frag} {mg : Str → Option Value} {base : Heap}
abbrev NPlan : List Str := ["_law_bag_here", "_law_most", "_law_wide", "_law_many", "_law_scans_z", "_law_point", "_law_k"]
theorem scPlan : FnScope NPlan ["_law_bag_here", "_law_most", "_law_wide"] (defScope sPlan) := ⟨rfl, rfl, rfl, by decide +kernel, rfl, by decide +kernel, by decide +kernel⟩
theorem ok_plan {f fD fO fS : Addr} {fd fdD fdO fdS : FuncData} (F : Fun K "_law_planned" "_law_planned" sPlan f fd) (G : FnOk P w K mg base CX0 1 fD fdD ["_law_bag_here", "_law_many"] spDraw) (mD : mg "_law_draw" = some (.ref fD)) (kD : PySem.W.keepIn K (.ref fD) = true) (bD : Binds K fdD ["_law_bag_here", "_law_many"] [])
    (GO : FnOk P w K mg base CX0 2 fO fdO ["_law_bag_here", "_law_some"] (spOf K)) (mO : mg "_law_of" = some (.ref fO)) (kO : PySem.W.keepIn K (.ref fO) = true) (bO : Binds K fdO ["_law_bag_here", "_law_some"] [])
    (GS : FnOk P w K mg base CX0 2 fS fdS ["_law_bag_here"] spSlipD) (mS : mg "_law_slip_words" = some (.ref fS)) (kS : PySem.W.keepIn K (.ref fS) = true) (bS : Binds K fdS ["_law_bag_here"] []) (zR : mg "range" = none) :
    FnOk P w K mg base CX0 3 f fd ["_law_bag_here", "_law_most", "_law_wide"] spPlan := by
  refine F.ok scPlan (fun vs H Q E h => ?_) (fun cdv A outer s H vs Q E hr h => ?_)
  · obtain ⟨p, c, m, w, rfl, _⟩ := h
    rfl
  · obtain ⟨p, c, mm, ww, rfl, hb, hm1, hm3, hw1, hw3, k⟩ := h
    have nd := scPlan.nd
    have hr1 := hr.mono (j := 1) (by decide)
    refine ⟨_, pss_cons (ps_set (i := 3) nd rfl (Or.inl rfl) (pe_op op_add pe_int (pe_call G hr1 rfl mD kD bD .nil pass0 (pa_cons (pv 0) (pa_cons (pv 1) pa_nil)))))
      (pss_cons (ps_setLc (i := 4) (own := [("_law_point", 5)]) (g := gName 5) rfl nd rfl rfl (sw_true rfl rfl rfl (by decide +kernel)) (pi_range2 (by rfl) zR (pa_cons pe_int (pa_cons (pv 3) pa_nil))) (blkOk_by (N := NPlan) (sc := defScope sPlan) (by decide +kernel))
        (fun _ _ _ _ _ => pg_name (i := 5) nd rfl (Or.inl rfl)) (fun _ _ _ _ _ => pts_one (pt_cmpR op_eq (pe_call G hr1 rfl mD kD bD .nil pass0 (pa_cons (pv 0) (pa_cons pe_int pa_nil))) pe_int (nomark _))) (fun _ _ _ _ _ => pv 5))
      (pss_one (ps_ret (pe_disp
        (pps_cons pe_str (pe_lc (own := [("_law_k", 6)]) (g := gName 6) (tt := tYes) rfl nd (pi_range1 (by rfl) zR (pa_cons (pv 3) pa_nil)) (blkOk_by (N := NPlan) (sc := defScope sPlan) (by decide +kernel)) (fun _ _ _ _ _ => pg_name (i := 6) nd rfl (Or.inl rfl)) (fun _ _ _ _ _ => pts_nil) (fun _ _ _ _ _ => pe_op op_add pe_int (pe_call G hr1 rfl mD kD bD .nil pass0 (pa_cons (pv 0) (pa_cons (pv 2) pa_nil)))))
        (pps_cons pe_str (pv 4)
        (pps_cons pe_str (pe_tup (pa_cons (pe_call G hr1 rfl mD kD bD .nil pass0 (pa_cons (pv 0) (pa_cons (pe_op op_add (pv 2) pe_int) pa_nil))) (pa_cons (pe_op op_add pe_int (pe_call G hr1 rfl mD kD bD .nil pass0 (pa_cons (pv 0) (pa_cons (pe_op op_mul pe_int (pv 2)) pa_nil)))) pa_nil)))
        (pps_cons pe_str (pe_call GS hr rfl mS kS bS .nil pass0 (pa_cons (pv 0) pa_nil))
        (pps_cons pe_str (pe_call GO hr rfl mO kO bO .nil pass0 (pa_cons (pv 0) (pa_cons (pe_lst (pa_cons pe_non (pa_cons pe_non (pa_cons pe_int (pa_cons pe_int (pa_cons pe_int pa_nil)))))) pa_nil)))
        (pps_cons pe_str (pe_lc (own := [("_law_k", 6)]) (g := gName 6) (tt := tYes) rfl nd (pi_range1 (by rfl) zR (pa_cons (pv 3) pa_nil)) (blkOk_by (N := NPlan) (sc := defScope sPlan) (by decide +kernel)) (fun _ _ _ _ _ => pg_name (i := 6) nd rfl (Or.inl rfl)) (fun _ _ _ _ _ => pts_nil) (fun _ _ _ _ _ => pe_op op_add pe_int (pe_call G hr1 rfl mD kD bD .nil pass0 (pa_cons (pv 0) (pa_cons (pe_op op_add (pv 2) pe_int) pa_nil)))))
        (pps_cons pe_str (pe_call G hr1 rfl mD kD bD .nil pass0 (pa_cons (pv 0) (pa_cons (pe_op op_add (pv 2) pe_int) pa_nil)))
        (pps_cons pe_str (pe_call GO hr rfl mO kO bO .nil pass0 (pa_cons (pv 0) (pa_cons (pe_lst (pa_cons pe_str (pa_cons pe_str pa_nil))) pa_nil)))
        (pps_cons pe_str (pe_call GO hr rfl mO kO bO .nil pass0 (pa_cons (pv 0) (pa_cons (pe_lst (pa_cons pe_str (pa_cons pe_str pa_nil))) pa_nil)))
        (pps_cons pe_str (pe_call GO hr rfl mO kO bO .nil pass0 (pa_cons (pv 0) (pa_cons (pe_lst (pa_cons pe_str (pa_cons pe_str pa_nil))) pa_nil)))
        pps_nil)))))))))) (by rfl) (by rfl) (fun z => by cases z) (by decide))))), ?_⟩
    refine ⟨_, rfl, _, rfl, p, mm, c, rfl, hb, by omega, Nat.lt_of_le_of_lt (show (mm : Int).natAbs ≤ 3 from hm3) (by decide), fun H1 m b1 hb1 m0 m3 => ?_⟩
    refine ⟨1, m, rfl, rfl, _, rfl, 1, 1 + m, rfl, ⟨by decide, by decide, by omega, by omega⟩, fun D hD => ?_⟩
    obtain ⟨nDp, nDc⟩ := hb1.ne hD
    have hn5 : (1 + m - 1).toNat < 5 := by omega
    refine lc_range (lo := 1) (n := (1 + m - 1).toNat) (fun i H' => But p H1 H' ∧ BagC H' p c ∧ Scd H' D i) ⟨But.of ((Same.refl H1).new hD), hb1.new hD, [], upd_same, Nat.le_refl _, .nil, fun x hx => nomatch hx⟩ ?_ ?_
    · rintro i H' hi ⟨q1, q2, q3⟩
      refine ⟨rfl, _, rfl, p, 2, c, rfl, q2, by decide, by decide, fun H2 r b1 b2 r0 r1 => ?_⟩
      have q3' : Scd H2 D i := by
        obtain ⟨ss, e, z⟩ := q3
        exact ⟨ss, b1 _ _ nDp e, z⟩
      refine ⟨rfl, _, rfl, ite2 (fun c => ?_) (fun c => ?_)⟩
      · obtain ⟨acc, e, l, z⟩ := q3'.step (Nat.lt_trans hi hn5)
        exact ⟨_, rfl, acc, e, l, (q1.trans b1).new hD, b2.upd nDp nDc, z⟩
      · exact ⟨q1.trans b1, b2, q3'.skip⟩
    · rintro H2 ⟨q1, q2, ss, qs, _, qp, qr⟩
      have hm : (1 + m).toNat ≤ 3 := by omega
      refine fun d hd => ?_
      have M1 : Mid H2 (upd H2 d (.dK [])) p c d := ⟨(But.refl p H2).new hd, q2.new hd, upd_same, hd⟩
      have hw200 : ∀ z : Int, 0 < z → z ≤ 6 → z.natAbs < 2 ^ 200 := fun z z0 z6 => Nat.lt_of_le_of_lt (show z.natAbs ≤ 6 by omega) (by decide)
      refine ⟨_, rfl, 1 + m, rfl, by omega, by omega, fun D1 hD1 => ?_⟩
      have nD1 := M1.bag.ne hD1
      refine lc_range (lo := 0) (n := (1 + m).toNat) (fun i H' => Mid H2 H' p c d ∧ Drawn H' D1 i ww) ⟨M1.new hD1, [], upd_same, rfl, fun r hr => nomatch hr⟩ ?_ ?_
      · rintro i H' hi ⟨M, dr⟩
        refine ⟨rfl, _, rfl, _, rfl, p, ww, c, rfl, M.bag, by omega, hw200 _ (by omega) (by omega), fun H3 r b2 b3 r0 r1 => ?_⟩
        have dr3 : Drawn H3 D1 i ww := by
          obtain ⟨rs, e, q⟩ := dr
          exact ⟨rs, b2 _ _ nD1.1 e, q⟩
        obtain ⟨acc, e, l, w⟩ := dr3.step (by omega) r0 r1
        exact ⟨1, r, rfl, rfl, acc, e, l, (M.draw b2 b3).put (M1.free hD1) nD1.1 nD1.2 (M1.nd hD1), w⟩
      · rintro H3 ⟨M3, bs, e3, l3, a3⟩
        refine ⟨_, rfl, ?_⟩
        refine ⟨_, rfl, _, rfl, ww, 1, rfl, rfl, p, ww + 1, c, rfl, M3.bag, by omega, hw200 _ (by omega) (by omega), fun H4 r4 b4 c4 r40 r41 => ?_⟩
        have M4 := M3.draw b4 c4
        have e4 := b4 _ _ nD1.1 e3
        refine ⟨_, rfl, _, rfl, 2, ww, rfl, rfl, .inl ⟨by decide, by decide⟩, p, 2 * ww, c, rfl, M4.bag, by omega, hw200 _ (by omega) (by omega), fun H5 r5 b5 c5 r50 r51 => ?_⟩
        have M5 := M4.draw b5 c5
        have e5 := b5 _ _ nD1.1 e4
        refine ⟨1, r5, rfl, rfl, by show 2 ≤ sizeLine; decide, fun tt htt => ?_⟩
        have M6 := M5.new (o := .tup [.int r4, .int (1 + r5)]) htt
        have ntt := M5.bag.ne htt
        have e6 := ((Same.refl _).new (o := .tup [.int r4, .int (1 + r5)]) htt) _ _ e5
        have t6 : (upd H5 tt (.tup [.int r4, .int (1 + r5)])) tt = some (.tup [.int r4, .int (1 + r5)]) := upd_same
        refine ⟨_, rfl, p, c, rfl, M6.bag, fun H7 l7 ws7 b7 c7 hl7 hw7 hs7 => ?_⟩
        have M7 := M6.draw b7 c7
        have nl7 := M6.bag.ne hl7
        have e7 := b7 _ _ nD1.1 e6
        have t7 := b7 _ _ ntt.1 t6
        refine ⟨_, rfl, by show 5 ≤ sizeLine; decide, fun l8 hl8 => ⟨p, l8, _, c, rfl, M7.bag.new hl8, SqL.of upd_same, (M7.bag.ne hl8).1, (fun z => by cases z), by show 5 ≤ 1000; decide, fun H9 x9 b9 c9 h9 => ?_⟩⟩
        have M9 := (M7.new hl8).draw b9 c9
        have s8 : Same H7 (upd H7 l8 (.lst [.non, .non, .int 1, .int 2, .int 3])) := (Same.refl _).new hl8
        have e9 := b9 _ _ nD1.1 (s8 _ _ e7)
        have t9 := b9 _ _ ntt.1 (s8 _ _ t7)
        have w9 := b9 _ _ nl7.1 (s8 _ _ hw7)
        refine ⟨_, rfl, 1 + m, rfl, by omega, by omega, fun D2 hD2 => ?_⟩
        have nD2 := M9.bag.ne hD2
        have sD2 : Same H9 (upd H9 D2 (.lst [])) := (Same.refl _).new hD2
        refine lc_range (lo := 0) (n := (1 + m).toNat) (fun i H' => Mid H2 H' p c d ∧ Drawn H' D2 i (ww + 1) ∧ But p (upd H9 D2 (.lst [])) (upd H' D2 (.lst []))) ⟨M9.new hD2, ⟨[], upd_same, rfl, fun r hr => nomatch hr⟩, by rw [upd_upd]; exact But.refl _ _⟩ ?_ ?_
        · rintro i H' hi ⟨M, dr, bq⟩
          refine ⟨rfl, _, rfl, _, rfl, ww, 1, rfl, rfl, p, ww + 1, c, rfl, M.bag, by omega, hw200 _ (by omega) (by omega), fun H3 r b2 b3 r0 r1 => ?_⟩
          have dr3 : Drawn H3 D2 i (ww + 1) := by
            obtain ⟨rs, e, q⟩ := dr
            exact ⟨rs, b2 _ _ nD2.1 e, q⟩
          obtain ⟨acc, e, l, w⟩ := dr3.step (by omega) r0 (by omega)
          refine ⟨1, r, rfl, rfl, acc, e, l, (M.draw b2 b3).put (M9.free hD2) nD2.1 nD2.2 (M9.nd hD2), w, ?_⟩
          rw [upd_upd]
          intro b o nb eb
          have z := bq b o nb eb
          by_cases q : b = D2
          · rw [q, upd_same] at z ⊢; exact z
          · rw [upd_ne q] at z ⊢; exact b2 _ _ nb z
        · rintro H10 ⟨M10, ⟨rs, e10, l10, a10⟩, bq⟩
          have up : ∀ b o, b ≠ p → H9 b = some o → H10 b = some o := fun b o nb eb => by
            have nq : b ≠ D2 := ne_of_none eb hD2
            have z := bq b o nb (by rw [upd_ne nq]; exact eb)
            rw [upd_ne nq] at z
            exact z
          have f10 := up _ _ nD1.1 e9
          have t10 := up _ _ ntt.1 t9
          have w10 := up _ _ nl7.1 w9
          refine ⟨_, rfl, _, rfl, ww, 1, rfl, rfl, p, ww + 1, c, rfl, M10.bag, by omega, hw200 _ (by omega) (by omega), fun H11 sk b11 c11 s0 s1 => ?_⟩
          have M11 := M10.draw b11 c11
          have k11 : ∀ b o, b ≠ p → H10 b = some o → H11 b = some o := fun b o nb eb => b11 _ _ nb eb
          refine ⟨_, rfl, by show 2 ≤ sizeLine; decide, fun l12 hl12 => ⟨p, l12, _, c, rfl, M11.bag.new hl12, SqL.of upd_same, (M11.bag.ne hl12).1, (fun z => by cases z), by show 2 ≤ 1000; decide, fun H12 x12 b12 c12 h12 => ?_⟩⟩
          have M12 := (M11.new hl12).draw b12 c12
          have k12 : ∀ b o, b ≠ p → H10 b = some o → H12 b = some o := fun b o nb eb => b12 _ _ nb (((Same.refl _).new hl12) _ _ (k11 b o nb eb))
          refine ⟨_, rfl, by show 2 ≤ sizeLine; decide, fun l13 hl13 => ⟨p, l13, _, c, rfl, M12.bag.new hl13, SqL.of upd_same, (M12.bag.ne hl13).1, (fun z => by cases z), by show 2 ≤ 1000; decide, fun H13 x13 b13 c13 h13 => ?_⟩⟩
          have M13 := (M12.new hl13).draw b13 c13
          have k13 : ∀ b o, b ≠ p → H10 b = some o → H13 b = some o := fun b o nb eb => b13 _ _ nb (((Same.refl _).new hl13) _ _ (k12 b o nb eb))
          refine ⟨_, rfl, by show 2 ≤ sizeLine; decide, fun l14 hl14 => ⟨p, l14, _, c, rfl, M13.bag.new hl14, SqL.of upd_same, (M13.bag.ne hl14).1, (fun z => by cases z), by show 2 ≤ 1000; decide, fun H14 x14 b14 c14 h14 => ?_⟩⟩
          have M14 := (M13.new hl14).draw b14 c14
          have k14 : ∀ b o, b ≠ p → H10 b = some o → H14 b = some o := fun b o nb eb => b14 _ _ nb (((Same.refl _).new hl14) _ _ (k13 b o nb eb))
          obtain ⟨so, rfl, hso⟩ : ∃ so : Option Int, x9 = optV so ∧ (so = none ∨ ∃ k : Int, so = some k ∧ 1 ≤ k ∧ k ≤ 3) := by
            simp only [List.mem_cons, List.not_mem_nil, or_false] at h9
            rcases h9 with rfl | rfl | rfl | rfl | rfl
            · exact ⟨none, rfl, .inl rfl⟩
            · exact ⟨none, rfl, .inl rfl⟩
            · exact ⟨some 1, rfl, .inr ⟨1, rfl, by decide, by decide⟩⟩
            · exact ⟨some 2, rfl, .inr ⟨2, rfl, by decide, by decide⟩⟩
            · exact ⟨some 3, rfl, .inr ⟨3, rfl, by decide, by decide⟩⟩
          obtain ⟨ze, rfl, we⟩ : ∃ z : Str, x12 = .str z ∧ (z = "blank" ∨ z = "none") := by
            rcases List.mem_cons.mp h12 with rfl | h
            · exact ⟨_, rfl, .inl rfl⟩
            · obtain rfl := List.mem_singleton.mp h
              exact ⟨_, rfl, .inr rfl⟩
          obtain ⟨zs, rfl, wS⟩ : ∃ z : Str, x13 = .str z ∧ (z = "first" ∨ z = "none") := by
            rcases List.mem_cons.mp h13 with rfl | h
            · exact ⟨_, rfl, .inl rfl⟩
            · obtain rfl := List.mem_singleton.mp h
              exact ⟨_, rfl, .inr rfl⟩
          obtain ⟨zp, rfl, wp⟩ : ∃ z : Str, x14 = .str z ∧ (z = "clear" ∨ z = "keep") := by
            rcases List.mem_cons.mp h14 with rfl | h
            · exact ⟨_, rfl, .inl rfl⟩
            · obtain rfl := List.mem_singleton.mp h
              exact ⟨_, rfl, .inr rfl⟩
          refine ⟨M14.dk, [(Sum.inr "belts", .ref D1), (Sum.inr "scans", .ref D), (Sum.inr "slips", .ref tt), (Sum.inr "words", .ref l7), (Sum.inr "stretch", optV so), (Sum.inr "rooms", .ref D2), (Sum.inr "seek", .int sk), (Sum.inr "empty", .str ze), (Sum.inr "strange", .str zs), (Sum.inr "pause", .str zp)], rfl, by show 10 ≤ 15; decide, ?_⟩
          have bb : But p H H2 := b1.trans q1
          have hd0 : H d = none := bb.free M14.dp hd
          have D12 := M1.free hD1
          have M1t := M5.free htt
          have M7l := M6.free hl7
          have D22 := M9.free hD2
          have e14 : H14 d = some (.dK []) := M14.dk
          have nn : ∀ b o, H14 b = some o → o ≠ .dK [] → b ≠ d := fun b o e n => ne_of e e14 n
          refine k _ d D1 D tt l7 D2 ⟨bs, ss, r4, 1 + r5, ws7, so, rs, sk, ze, zs, zp⟩ ((bb.trans M14.but).new hd0) (M14.bag.upd M14.dp M14.dc) hd0 (bb.free nD1.1 D12) (b1.free nDp hD) (bb.free ntt.1 M1t) (bb.free nl7.1 M7l) (bb.free nD2.1 D22)
            ⟨?_, ?_, ?_, ?_, ?_, ?_⟩ ⟨?_, ?_, ?_, qp, ?_, r40, ?_, ?_, ?_, hs7, hso, ?_, ?_, s0, ?_, we, wS, wp⟩
          · show upd _ d (.dK (mergeK [] (planK _ _ _ _ _ _ _ _ _ _))) d = _
            rw [plan_merge, upd_same]
          · have z := k14 _ _ nD1.1 f10
            rw [upd_ne (nn _ _ z (fun z => nomatch z))]; exact z
          · have z := M14.but _ _ nDp qs
            rw [upd_ne (nn _ _ z (fun z => nomatch z))]; exact z
          · have z := k14 _ _ ntt.1 t10
            rw [upd_ne (nn _ _ z (fun z => nomatch z))]; exact z
          · have z := k14 _ _ nl7.1 w10
            rw [upd_ne (nn _ _ z (fun z => nomatch z))]; exact z
          · have z := k14 _ _ nD2.1 e10
            rw [upd_ne (nn _ _ z (fun z => nomatch z))]; exact z
          · show 1 ≤ bs.length; omega
          · show bs.length ≤ mm; omega
          · exact a3
          · intro x hx; have := qr x hx; show 1 ≤ x ∧ x < (bs.length : Int); omega
          · show r4 ≤ (ww : Int); omega
          · show 1 ≤ 1 + r5; omega
          · show 1 + r5 ≤ 2 * (ww : Int); omega
          · show rs.length = bs.length; omega
          · exact a10
          · show sk ≤ (ww : Int); omega
end
end Own

namespace Own
open PySem L2 ClX
theorem ne_nilI {ns : List Int} : (!PyData.eqv (.list (intD ns)) (.list [])) = !ns.isEmpty := by
  cases ns with
  | nil => simp [intD, PyData.eqv, PyData.eqvAll]
  | cons n r => simp [intD, PyData.eqv, PyData.eqvAll]
theorem shpLI {ns : List Int} (h : ns.length ≤ 1000) : SeqAt.shaped (.list (intD ns)) = true := shal_shaped (n := 1) (shLI h) (by decide) (by simp only [PyData.canLay0]; exact canI ns)
theorem shpLS {ns : List Str} (h : ns.length ≤ 1000) (hs : ∀ z ∈ ns, PyData.strOk z = true) : SeqAt.shaped (.list (strD ns)) = true := shal_shaped (n := 1) (shLS h) (by decide) (by simp only [PyData.canLay0]; exact canS ns hs)
theorem perm_erase {ns : List Int} {k : Nat} {y : Int} (h : ns[k]? = some y) : (y :: ns.eraseIdx k).Perm ns := by
  induction ns generalizing k with
  | nil => cases h
  | cons x r ih =>
    cases k with
    | zero => cases h; exact .refl _
    | succ k => exact (List.Perm.swap x y _).trans ((ih (k := k) (by simpa using h)).cons x)
theorem seqIdx_nat {r : Int} {n : Nat} (r0 : 0 ≤ r) (r1 : r < n) : seqIndex? r n = some r.toNat := by
  have h : ¬ r < 0 := by omega
  simp only [seqIndex?, if_neg h]
  simp [r0, r1]
theorem map_erase {α β : Type} (g : α → β) : ∀ (l : List α) (k : Nat), (l.map g).eraseIdx k = (l.eraseIdx k).map g
  | [], _ => rfl
  | _ :: _, 0 => rfl
  | x :: r, k + 1 => by
    show g x :: (r.map g).eraseIdx k = g x :: (r.eraseIdx k).map g
    rw [map_erase g r k]
end Own

namespace Own
open PySem L2 ClX PySem.HandSPX
def mx1 {α : Type} : List α → List α → List α := fun zs _ => zs
def mx2 {α : Type} : List α → List α → List α := fun zs _ => zs.reverse
/-- slips, scans, stretch, words -/
def mx3 {α : Type} : List α → List α → List α := fun zs _ => match zs with
  | [p, s, t, w] => [s, p, w, t]
  | _ => []
theorem vals_rev {xs : List V} {us : List Value} (r : Vals xs us) : Vals xs.reverse us.reverse := by
  induction r with
  | nil => exact .nil
  | cons h t ih => rw [List.reverse_cons, List.reverse_cons]; exact ih.append (.cons h .nil)
section
variable {P : Program} {w : World} {K : PySem.W.Frag} {mg : Str → Option Value} {base : Heap}
theorem ln_all1 {f C a0 a1 a2 : Addr} {cA : Nat → Addr} (I : LnInit K f a0 a1 a2) (T : LnF K mg C) (c : CkL P w K mg base cA) : FnSt P w K mg base (L2.CX P w) 8 f ["scans", "slips", "words", "stretch"] (fun zs => mx1 zs []) (spLn K C cA) := by
  obtain ⟨oc, od, D, doc, pm, an, cdv, ct, osl, lk, hcd, d1, d2, d3, d4⟩ := I.ex
  exact fn_starKwo (ms := []) (g := mx1) (gV := mx1) (ps := ["scans", "slips", "words", "stretch"]) (pv := "belts") (p0 := "self") lk hcd scLI StX.cxUp (fun q hq => by cases hq) (fun r _ => r) (fun ws mv l _ => l)
    (fun a us ws mv l1 l2 => match ws, l1, mv, l2, us with
      | [_, _, _, _], _, [], _, [] => rfl
      | [_, _, _, _], _, [], _, _ :: _ => rfl)
    (fun A outer s H vs Q E hr h => body_ln T c hr h)
theorem ln_all2 {f C a0 a1 a2 : Addr} {cA : Nat → Addr} (I : LnInit K f a0 a1 a2) (T : LnF K mg C) (c : CkL P w K mg base cA) : FnSt P w K mg base (L2.CX P w) 8 f ["stretch", "words", "slips", "scans"] (fun zs => mx2 zs []) (spLn K C cA) := by
  obtain ⟨oc, od, D, doc, pm, an, cdv, ct, osl, lk, hcd, d1, d2, d3, d4⟩ := I.ex
  exact fn_starKwo (ms := []) (g := mx2) (gV := mx2) (ps := ["scans", "slips", "words", "stretch"]) (pv := "belts") (p0 := "self") lk hcd scLI StX.cxUp (fun q hq => by cases hq) (fun r _ => vals_rev r) (fun ws mv l _ => by show ws.reverse.length = 4; rw [List.length_reverse]; exact l)
    (fun a us ws mv l1 l2 => match ws, l1, mv, l2, us with
      | [_, _, _, _], _, [], _, [] => rfl
      | [_, _, _, _], _, [], _, _ :: _ => rfl)
    (fun A outer s H vs Q E hr h => body_ln T c hr h)
theorem ln_all3 {f C a0 a1 a2 : Addr} {cA : Nat → Addr} (I : LnInit K f a0 a1 a2) (T : LnF K mg C) (c : CkL P w K mg base cA) : FnSt P w K mg base (L2.CX P w) 8 f ["slips", "scans", "stretch", "words"] (fun zs => mx3 zs []) (spLn K C cA) := by
  obtain ⟨oc, od, D, doc, pm, an, cdv, ct, osl, lk, hcd, d1, d2, d3, d4⟩ := I.ex
  exact fn_starKwo (ms := []) (g := mx3) (gV := mx3) (ps := ["scans", "slips", "words", "stretch"]) (pv := "belts") (p0 := "self") lk hcd scLI StX.cxUp (fun q hq => by cases hq)
    (fun r _ => match r with
      | .cons a (.cons b (.cons c (.cons d .nil))) => .cons b (.cons a (.cons d (.cons c .nil)))
      | .nil => .nil
      | .cons _ .nil => .nil
      | .cons _ (.cons _ .nil) => .nil
      | .cons _ (.cons _ (.cons _ .nil)) => .nil
      | .cons _ (.cons _ (.cons _ (.cons _ (.cons _ _)))) => .nil)
    (fun ws mv l _ => match ws, l with | [_, _, _, _], _ => rfl)
    (fun a us ws mv l1 l2 => match ws, l1, mv, l2, us with
      | [_, _, _, _], _, [], _, [] => rfl
      | [_, _, _, _], _, [], _, _ :: _ => rfl)
    (fun A outer s H vs Q E hr h => body_ln T c hr h)
end
/-! ### lines as data -/
structure LnD where
  belts : List Int
  scans : List Int
  most : Int
  among : Int
  words : List Str
  stretch : Option Int
structure LnOk (l : LnD) : Prop where
  n1 : 1 ≤ l.belts.length
  n3 : l.belts.length ≤ 3
  bl : ∀ x ∈ l.belts, 1 ≤ x ∧ x ≤ 3
  sn : l.scans.Nodup
  sr : ∀ x ∈ l.scans, 1 ≤ x ∧ x < l.belts.length
  m0 : 0 ≤ l.most
  m3 : l.most ≤ 3
  a1 : 1 ≤ l.among
  a6 : l.among ≤ 6
  ws : l.words.Sublist slipW
  st : l.stretch = none ∨ ∃ k : Int, l.stretch = some k ∧ 1 ≤ k ∧ k ≤ 12
theorem LnOk.sl {l : LnD} (h : LnOk l) : l.scans.length ≤ 2 := by
  have h1 : ∀ x ∈ l.scans, x ∈ ([1, 2] : List Int) := fun x hx => by
    have := h.sr x hx
    have := h.n3
    simp only [List.mem_cons, List.not_mem_nil, or_false]
    omega
  match e : l.scans, h.sn, h1 with
  | [], _, _ => exact Nat.zero_le _
  | [_], _, _ => exact Nat.le_of_ble_eq_true rfl
  | [_, _], _, _ => exact Nat.le_of_ble_eq_true rfl
  | x :: y :: z :: r, n, h1 =>
    exfalso
    have a := h1 x (by simp)
    have b := h1 y (by simp)
    have c := h1 z (by simp)
    simp only [List.nodup_cons, List.mem_cons, not_or] at n
    simp only [List.mem_cons, List.not_mem_nil, or_false] at a b c
    obtain ⟨⟨n1, n2, _⟩, ⟨n3, _⟩, _⟩ := n
    rcases a with rfl | rfl <;> rcases b with rfl | rfl <;> rcases c with rfl | rfl <;> simp_all
/-- a line stands at x -/
structure LnAt (K : PySem.W.Frag) (C : Addr) (H : Hp) (x : Addr) (l : LnD) : Prop where
  ex : ∃ dx t tS tP tW, H x = some (.ins C dx (lnf t tS (.ref tP) tW (optV l.stretch))) ∧ SqT K H t (l.belts.map V.int) ∧ SqT K H tS (l.scans.map V.int) ∧ SqT K H tP [.int l.most, .int l.among] ∧ SqT K H tW (l.words.map V.str)
  ok : LnOk l
theorem LnAt.same {K : PySem.W.Frag} {C : Addr} {H H' : Hp} {x : Addr} {l : LnD} (h : LnAt K C H x l) (e : Same H H') : LnAt K C H' x l := by
  obtain ⟨⟨dx, t, tS, tP, tW, h1, h2, h3, h4, h5⟩, ok⟩ := h
  exact ⟨⟨dx, t, tS, tP, tW, e _ _ h1, sqT_same h2 e, sqT_same h3 e, sqT_same h4 e, sqT_same h5 e⟩, ok⟩
theorem firstBad_ok {lo hi : Int} : ∀ {ns : List Int}, (∀ x ∈ ns, lo ≤ x ∧ x ≤ hi) → firstBad (intD ns) lo hi = none
  | ns, h => by
    unfold firstBad intD
    rw [List.find?_eq_none]
    intro d hd
    obtain ⟨x, hx, rfl⟩ := List.mem_map.mp hd
    obtain ⟨h1, h2⟩ := h x hx
    simp [numB, h1, h2]
theorem inV_ints {x : Int} : ∀ {ns : List Int}, ¬ x ∈ ns → inV (.int x) (ns.map V.int) = false := fun {ns} h => by
  cases q : inV (.int x) (ns.map V.int) with
  | false => rfl
  | true =>
    exfalso
    unfold inV at q
    simp only [List.any_map, List.any_eq_true, Function.comp] at q
    obtain ⟨y, hy, e⟩ := q
    simp [eqV] at e
    exact h (e ▸ hy)
theorem badScan_ok {hi : Int} : ∀ {ns seen : List Int}, (∀ x ∈ ns, 1 ≤ x ∧ x ≤ hi) → ns.Nodup → (∀ x ∈ ns, ¬ x ∈ seen) → badScan hi seen (intD ns) = none
  | [], _, _, _, _ => rfl
  | n :: ns, seen, h, nd, hs => by
    show badScan hi seen (.int n :: intD ns) = none
    obtain ⟨h1, h2⟩ := h n (List.mem_cons_self ..)
    have hn : scanOk hi seen (.int n) = true := by
      unfold scanOk
      rw [show dInt (.int n) = n from rfl, inV_ints (hs n (List.mem_cons_self ..))]
      simp [numB, h1, h2]
    obtain ⟨n1, n2⟩ := List.nodup_cons.mp nd
    rw [badScan_cons, if_pos hn]
    refine badScan_ok (fun x hx => h x (List.mem_cons_of_mem _ hx)) n2 fun x hx hm => ?_
    rcases List.mem_append.mp hm with hm | hm
    · exact hs x (List.mem_cons_of_mem _ hx) hm
    · have e : x = n := List.mem_singleton.mp hm
      exact n1 (e ▸ hx)
theorem badWord_ok {ws : List Str} (h : ws.Sublist slipW) : badWord slipW (strD ws) = none := by
  unfold slipW at h
  cases h with
  | cons _ h => cases h with
    | cons _ h => cases h with
      | cons _ h => cases h; rfl
      | cons_cons _ h => cases h; decide +kernel
    | cons_cons _ h => cases h with
      | cons _ h => cases h; decide +kernel
      | cons_cons _ h => cases h; decide +kernel
  | cons_cons _ h => cases h with
    | cons _ h => cases h with
      | cons _ h => cases h; decide +kernel
      | cons_cons _ h => cases h; decide +kernel
    | cons_cons _ h => cases h with
      | cons _ h => cases h; decide +kernel
      | cons_cons _ h => cases h; decide +kernel
theorem lnErr_good {l : LnD} (h : LnOk l) : lnErr l.belts.length (intD l.belts) (intD l.scans) (.tuple [.int l.most, .int l.among]) (strD l.words) (optD l.stretch) = none := by
  have := h.n1
  have := h.n3
  refine lnErr_0 ⟨h.n1, h.n3⟩ (firstBad_ok h.bl) (badScan_ok (fun x hx => ?_) h.sn (fun x _ q => nomatch q)) ?_ (badWord_ok h.ws) ?_
  · have := h.sr x hx
    omega
  · have a := h.m0
    have b := h.m3
    have c := h.a1
    have d := h.a6
    simp [slipsOk, numB, a, b, c, d]
  · rcases h.st with e | ⟨k, e, k1, k2⟩
    · rw [e]; rfl
    · rw [e]
      simp [optD, strOk, numB, k1, k2]
end Own

namespace Own
open PySem L2 ClX PySem.HandSPX
theorem eqTI {a b : List Int} : PyData.eqv (.tuple (intD a)) (.tuple (intD b)) = decide (a = b) := by
  have z := eqv_dec (.tuple (intD a)) (.tuple (intD b)) (by simp only [noBl]; exact nbI a) (by simp only [noBl]; exact nbI b)
  rw [PyData.tuple.injEq, intD_inj] at z
  cases q : PyData.eqv (.tuple (intD a)) (.tuple (intD b)) with
  | true => exact (decide_eq_true (z.mp q)).symm
  | false => exact (decide_eq_false (fun c => by rw [z.mpr c] at q; cases q)).symm
theorem eqLI {a b : List Int} : PyData.eqv (.list (intD a)) (.list (intD b)) = decide (a = b) := by
  have z := eqv_dec (.list (intD a)) (.list (intD b)) (by simp only [noBl]; exact nbI a) (by simp only [noBl]; exact nbI b)
  rw [PyData.list.injEq, intD_inj] at z
  cases q : PyData.eqv (.list (intD a)) (.list (intD b)) with
  | true => exact (decide_eq_true (z.mp q)).symm
  | false => exact (decide_eq_false (fun c => by rw [z.mpr c] at q; cases q)).symm
theorem eqTS {a b : List Str} : PyData.eqv (.tuple (strD a)) (.tuple (strD b)) = decide (a = b) := by
  have z := eqv_dec (.tuple (strD a)) (.tuple (strD b)) (by simp only [noBl]; exact nbS a) (by simp only [noBl]; exact nbS b)
  rw [PyData.tuple.injEq, strD_inj] at z
  cases q : PyData.eqv (.tuple (strD a)) (.tuple (strD b)) with
  | true => exact (decide_eq_true (z.mp q)).symm
  | false => exact (decide_eq_false (fun c => by rw [z.mpr c] at q; cases q)).symm
theorem eqLS {a b : List Str} : PyData.eqv (.list (strD a)) (.list (strD b)) = decide (a = b) := by
  have z := eqv_dec (.list (strD a)) (.list (strD b)) (by simp only [noBl]; exact nbS a) (by simp only [noBl]; exact nbS b)
  rw [PyData.list.injEq, strD_inj] at z
  cases q : PyData.eqv (.list (strD a)) (.list (strD b)) with
  | true => exact (decide_eq_true (z.mp q)).symm
  | false => exact (decide_eq_false (fun c => by rw [z.mpr c] at q; cases q)).symm
theorem eqOI {a b : Option Int} : PyData.eqv (optD a) (optD b) = decide (a = b) := by
  cases a <;> cases b <;> simp [optD, PyData.eqv]
  rename_i x y
  by_cases e : x = y <;> simp [e]
theorem dpO {K : PySem.W.Frag} {H : Hp} : ∀ o : Option Int, Dp K H (optV o) (optD o)
  | none => .non
  | some n => .int n
theorem shO {n : Nat} : ∀ o : Option Int, Shal n (optD o)
  | none => .non
  | some n => .int n
theorem shpTI {ns : List Int} (h : ns.length ≤ 1000) : SeqAt.shaped (.tuple (intD ns)) = true := shal_shaped (n := 1) (shTI h) (by decide) (by simp only [PyData.canLay0]; exact canI ns)
theorem shpTS {ns : List Str} (h : ns.length ≤ 1000) (hs : ∀ z ∈ ns, PyData.strOk z = true) : SeqAt.shaped (.tuple (strD ns)) = true := shal_shaped (n := 1) (shTS h) (by decide) (by simp only [PyData.canLay0]; exact canS ns hs)
theorem shpO : ∀ o : Option Int, SeqAt.shaped (optD o) = true
  | none => by decide +kernel
  | some n => shal_shaped (n := 0) (.int n) (by decide) (by simp [optD, PyData.canLay0])
def eqLn (l r : LnD) : Bool := decide (l.belts = r.belts) && (decide (l.scans = r.scans) && (decide ([l.most, l.among] = [r.most, r.among]) && (decide (l.words = r.words) && decide (l.stretch = r.stretch))))
theorem eqLn_refl (l : LnD) : eqLn l l = true := by simp [eqLn]
/-- a list made of a tuple of the line -/
def spListF (K : PySem.W.Frag) (C : Addr) (fld : Str) : Sp := fun vs H Q _ => ∃ a dx fs t xs, vs = [.ref a] ∧ H a = some (.ins C dx fs) ∧ fs.lookup fld = some (.ref t) ∧ SqT K H t xs ∧ ∀ l, H l = none → Q (.ref l) (upd H l (.lst xs))
def spLenF (K : PySem.W.Frag) (C : Addr) (fld : Str) : Sp := fun vs H Q _ => ∃ a dx fs t xs, vs = [.ref a] ∧ H a = some (.ins C dx fs) ∧ fs.lookup fld = some (.ref t) ∧ SqT K H t xs ∧ Q (.int (xs.length : Nat)) H
def lnText (n : Nat) : Str := Str.empty ++ "Line(" ++ toString (n : Int) ++ " belts)"
def spLRep (K : PySem.W.Frag) (C : Addr) : Sp := fun vs H Q _ => ∃ a l, vs = [.ref a] ∧ LnAt K C H a l ∧ Q (.str (lnText l.belts.length)) H
def spLEq (K : PySem.W.Frag) (C : Addr) : Sp := fun vs H Q _ => ∃ a l y, vs = [.ref a, y] ∧ LnAt K C H a l ∧
  ((∃ b r, y = .ref b ∧ LnAt K C H b r ∧ Q (.bl (eqLn l r)) H) ∨ (∃ t, TyX K H y t ∧ PySem.W.kitOne K t (.ref C) = some false ∧ Q (.bl false) H))
/-- what isinstance asks of the class -/
structure TyC (K : PySem.W.Frag) (C : Addr) : Prop where
  ha : PySem.W.findIn K (.ref C) "__class__" = some (some (.builtin "object.__class__"))
  hn : PySem.W.specialIn K (.builtin "object.__class__") "__get__" = some (some (.builtin "getset_descriptor.__get__"))
  htk : PySem.W.takesIn K (.builtin "object.__class__") = some true
  hm : PySem.W.mroIn K C (.type "object") = some true
  self : PySem.W.kitOne K (.ref C) (.ref C) = some true
section
variable {P : Program} {w : World} {K : PySem.W.Frag} {mg : Str → Option Value} {base : Heap} {f C : Addr} {fd : FuncData}
theorem scLG2 : FnScope ["self"] ["self"] (defScope (sLG 2)) := ⟨rfl, rfl, rfl, by decide +kernel, rfl, by decide +kernel, by decide +kernel⟩
theorem scLG3 : FnScope ["self"] ["self"] (defScope (sLG 3)) := ⟨rfl, rfl, rfl, by decide +kernel, rfl, by decide +kernel, by decide +kernel⟩
theorem scLG4 : FnScope ["self"] ["self"] (defScope (sLG 4)) := ⟨rfl, rfl, rfl, by decide +kernel, rfl, by decide +kernel, by decide +kernel⟩
theorem scLG7 : FnScope ["self"] ["self"] (defScope (sLG 7)) := ⟨rfl, rfl, rfl, by decide +kernel, rfl, by decide +kernel, by decide +kernel⟩
theorem scLG11 : FnScope ["self"] ["self"] (defScope (sLG 11)) := ⟨rfl, rfl, rfl, by decide +kernel, rfl, by decide +kernel, by decide +kernel⟩
theorem scLG12 : FnScope ["self"] ["self"] (defScope (sLG 12)) := ⟨rfl, rfl, rfl, by decide +kernel, rfl, by decide +kernel, by decide +kernel⟩
theorem scLG10 : FnScope ["self", "other"] ["self", "other"] (defScope (sLG 10)) := ⟨rfl, rfl, rfl, by decide +kernel, rfl, by decide +kernel, by decide +kernel⟩
theorem ok_lbelts (F : Fun K "belts" "Line.belts" (sLG 2) f fd) (T : LnF K mg C) (zL : mg "list" = none) : FnOk P w K mg base CX0 1 f fd ["self"] (spListF K C "_belts") := by
  refine F.ok scLG2 (fun vs H Q E ⟨a, dx, fs, t, xs, e, _⟩ => by rw [e]; rfl) (fun cdv A outer s H vs Q E hr ⟨a, dx, fs, t, xs, e, ha, hl, ht, k⟩ => ?_)
  subst e
  exact ⟨_, pss_one (ps_ret (pe_callTy call_list_of (by rfl) zL (by decide +kernel) (pa_cons (pe_fld (pv 0) rfl) pa_nil))), _, rfl, a, C, dx, _, _, rfl, ha, T.cl, T.n1, hl, t, _, rfl, .inr ht, k⟩
theorem ok_lscans (F : Fun K "scans" "Line.scans" (sLG 3) f fd) (T : LnF K mg C) (zL : mg "list" = none) : FnOk P w K mg base CX0 1 f fd ["self"] (spListF K C "_scans") := by
  refine F.ok scLG3 (fun vs H Q E ⟨a, dx, fs, t, xs, e, _⟩ => by rw [e]; rfl) (fun cdv A outer s H vs Q E hr ⟨a, dx, fs, t, xs, e, ha, hl, ht, k⟩ => ?_)
  subst e
  exact ⟨_, pss_one (ps_ret (pe_callTy call_list_of (by rfl) zL (by decide +kernel) (pa_cons (pe_fld (pv 0) rfl) pa_nil))), _, rfl, a, C, dx, _, _, rfl, ha, T.cl, T.n2, hl, t, _, rfl, .inr ht, k⟩
theorem ok_lwords (F : Fun K "words" "Line.words" (sLG 4) f fd) (T : LnF K mg C) (zL : mg "list" = none) : FnOk P w K mg base CX0 1 f fd ["self"] (spListF K C "_words") := by
  refine F.ok scLG4 (fun vs H Q E ⟨a, dx, fs, t, xs, e, _⟩ => by rw [e]; rfl) (fun cdv A outer s H vs Q E hr ⟨a, dx, fs, t, xs, e, ha, hl, ht, k⟩ => ?_)
  subst e
  exact ⟨_, pss_one (ps_ret (pe_callTy call_list_of (by rfl) zL (by decide +kernel) (pa_cons (pe_fld (pv 0) rfl) pa_nil))), _, rfl, a, C, dx, _, _, rfl, ha, T.cl, T.n4, hl, t, _, rfl, .inr ht, k⟩
theorem ok_llast (F : Fun K "last" "Line.last" (sLG 7) f fd) (T : LnF K mg C) : FnOk P w K mg base CX0 1 f fd ["self"] (spLenF K C "_belts") := by
  refine F.ok scLG7 (fun vs H Q E ⟨a, dx, fs, t, xs, e, _⟩ => by rw [e]; rfl) (fun cdv A outer s H vs Q E hr ⟨a, dx, fs, t, xs, e, ha, hl, ht, k⟩ => ?_)
  subst e
  exact ⟨_, pss_one (ps_ret (pe_callB call_len_seq (by rfl) T.zL PySem.boot_len (pa_cons (pe_fld (pv 0) rfl) pa_nil))), _, rfl, a, C, dx, _, _, rfl, ha, T.cl, T.n1, hl, t, _, rfl, .inr ht, k⟩
theorem ok_llen (F : Fun K "__len__" "Line.__len__" (sLG 11) f fd) (T : LnF K mg C) : FnOk P w K mg base CX0 1 f fd ["self"] (spLenF K C "_belts") := by
  refine F.ok scLG11 (fun vs H Q E ⟨a, dx, fs, t, xs, e, _⟩ => by rw [e]; rfl) (fun cdv A outer s H vs Q E hr ⟨a, dx, fs, t, xs, e, ha, hl, ht, k⟩ => ?_)
  subst e
  exact ⟨_, pss_one (ps_ret (pe_callB call_len_seq (by rfl) T.zL PySem.boot_len (pa_cons (pe_fld (pv 0) rfl) pa_nil))), _, rfl, a, C, dx, _, _, rfl, ha, T.cl, T.n1, hl, t, _, rfl, .inr ht, k⟩
theorem ok_lrep (F : Fun K "__repr__" "Line.__repr__" (sLG 12) f fd) (T : LnF K mg C) : FnOk P w K mg base CX0 1 f fd ["self"] (spLRep K C) := by
  refine F.ok scLG12 (fun vs H Q E ⟨a, l, e, _⟩ => by rw [e]; rfl) (fun cdv A outer s H vs Q E hr ⟨a, l, e, la, k⟩ => ?_)
  subst e
  obtain ⟨⟨dx, t, tS, tP, tW, ha, ht, _⟩, ok⟩ := la
  refine ⟨_, pss_one (ps_ret (pe_joined (.cons pe_str (.cons (pe_fmt (pe_callB call_len_seq (by rfl) T.zL PySem.boot_len (pa_cons (pe_fld (pv 0) rfl) pa_nil))) (.cons pe_str .nil))))), ?_⟩
  have hl : l.belts.length = 1 ∨ l.belts.length = 2 ∨ l.belts.length = 3 := by have := ok.n1; have := ok.n3; omega
  refine ⟨_, rfl, by rcases hl with h | h | h <;> decide +kernel, _, rfl, a, C, dx, _, _, rfl, ha, T.cl, T.n1, rfl, t, _, rfl, .inr ht, .inr ⟨_, rfl, ?_, ?_⟩⟩
  · rw [List.length_map]
    rcases hl with h | h | h <;> rw [h] <;> decide +kernel
  · rw [List.length_map]
    refine ⟨_, rfl, ?_, _, rfl, ?_, k⟩
    · rcases hl with h | h | h <;> rw [h] <;> decide +kernel
    · rcases hl with h | h | h <;> rw [h] <;> decide +kernel
theorem ok_leq (F : Fun K "__eq__" "Line.__eq__" (sLG 10) f fd) (T : LnF K mg C) (TC : TyC K C) (zI : mg "isinstance" = none) : FnOk P w K mg base CX0 2 f fd ["self", "other"] (spLEq K C) := by
  refine F.ok scLG10 (fun vs H Q E ⟨a, l, y, e, _⟩ => by rw [e]; rfl) (fun cdv A outer s H vs Q E hr ⟨a, l, y, e, la, k⟩ => ?_)
  subst e
  obtain ⟨⟨dx, t, tS, tP, tW, ha, ht, hS, hP, hW⟩, ok⟩ := la
  refine ⟨_, pss_one (ps_ret (pe_and (pe_callB call_isi (by rfl) zI (by decide +kernel) (pa_cons (pv 1) (pa_cons (pe_glob (v := .ref C) (by rfl) T.at_ rfl) pa_nil)))
    (pe_and (pe_cmpR (op_eqD hr.units) (pe_fld (pv 0) rfl) (pe_fld (pv 1) rfl) (nomark _)) (pe_and (pe_cmpR (op_eqD hr.units) (pe_fld (pv 0) rfl) (pe_fld (pv 1) rfl) (nomark _)) (pe_and (pe_cmpR (op_eqD hr.units) (pe_fld (pv 0) rfl) (pe_fld (pv 1) rfl) (nomark _))
    (pe_and (pe_cmpR (op_eqD hr.units) (pe_fld (pv 0) rfl) (pe_fld (pv 1) rfl) (nomark _)) (pe_one (pe_cmpR (op_eqD hr.units) (pe_fld (pv 0) rfl) (pe_fld (pv 1) rfl) (nomark _))))))))), ?_⟩
  rcases k with ⟨b, r, rfl, ⟨⟨dx', t', tS', tP', tW', hb, ht', hS', hP', hW'⟩, ok'⟩, k⟩ | ⟨tb, ty, hk, k⟩
  · have l1 := ok.n3
    have l2 := ok'.n3
    have s1 := ok.sl
    have s2 := ok'.sl
    have w1 := ok.ws.length_le
    have w2 := ok'.ws.length_le
    have w3 : slipW.length = 3 := rfl
    refine ⟨_, rfl, _, _, .ref C, .ref C, true, rfl, .own C, .base (.ins hb T.cl TC.ha TC.hn TC.htk TC.hm), TC.self, true, rfl, iteT ?_⟩
    unfold eqLn at k
    refine ⟨_, rfl, a, C, dx, _, _, rfl, ha, T.cl, T.n1, rfl, _, rfl, b, C, dx', _, _, rfl, hb, T.cl, T.n1, rfl, _, _, .tup ht (dpI _), .tup ht' (dpI _), shpTI (by omega), shpTI (by omega), decide (l.belts = r.belts), congrArg V.bl eqTI, ite2 (fun c => ?_) (fun c => ?_)⟩
    · rw [c, Bool.true_and] at k
      refine ⟨_, rfl, a, C, dx, _, _, rfl, ha, T.cl, T.n2, rfl, _, rfl, b, C, dx', _, _, rfl, hb, T.cl, T.n2, rfl, _, _, .tup hS (dpI _), .tup hS' (dpI _), shpTI (by omega), shpTI (by omega), decide (l.scans = r.scans), congrArg V.bl eqTI, ite2 (fun c => ?_) (fun c => ?_)⟩
      · rw [c, Bool.true_and] at k
        refine ⟨_, rfl, a, C, dx, _, _, rfl, ha, T.cl, T.n3, rfl, _, rfl, b, C, dx', _, _, rfl, hb, T.cl, T.n3, rfl, _, _, .tup (xs := [.int l.most, .int l.among]) hP (dpI [l.most, l.among]), .tup (xs := [.int r.most, .int r.among]) hP' (dpI [r.most, r.among]), shpTI (by show 2 ≤ 1000; decide), shpTI (by show 2 ≤ 1000; decide), decide ([l.most, l.among] = [r.most, r.among]), congrArg V.bl eqTI, ite2 (fun c => ?_) (fun c => ?_)⟩
        · rw [c, Bool.true_and] at k
          refine ⟨_, rfl, a, C, dx, _, _, rfl, ha, T.cl, T.n4, rfl, _, rfl, b, C, dx', _, _, rfl, hb, T.cl, T.n4, rfl, _, _, .tup hW (dpS _), .tup hW' (dpS _), shpTS (by omega) (slip_ok ok.ws), shpTS (by omega) (slip_ok ok'.ws), decide (l.words = r.words), congrArg V.bl eqTS, ite2 (fun c => ?_) (fun c => ?_)⟩
          · rw [c, Bool.true_and] at k
            refine ⟨_, rfl, a, C, dx, _, _, rfl, ha, T.cl, T.n5, rfl, _, rfl, b, C, dx', _, _, rfl, hb, T.cl, T.n5, rfl, _, _, dpO _, dpO _, shpO _, shpO _, ?_⟩
            rw [eqOI]
            exact k
          · rw [Bool.eq_false_iff.mpr c] at k; exact k
        · rw [Bool.eq_false_iff.mpr c] at k; exact k
      · rw [Bool.eq_false_iff.mpr c] at k; exact k
    · rw [Bool.eq_false_iff.mpr c] at k; exact k
  · exact ⟨_, rfl, _, _, tb, .ref C, false, rfl, .own C, ty, hk, false, rfl, iteF k⟩
end
end Own

namespace Own
open PySem L2 ClX PySem.HandSPX
/-- the line that a plan makes, its scans in their order -/
def Plan.line (pl : Plan) (ss : List Int) : LnD := ⟨pl.belts, ss, pl.most, pl.among, pl.words, pl.stretch⟩
theorem map_dInt (ns : List Int) : (intD ns).map dInt = ns := by
  unfold intD
  rw [List.map_map]
  exact List.map_id' ns
theorem lnOk_perm {l : LnD} {ss : List Int} (h : LnOk l) (pm : ss.Perm l.scans) : LnOk { l with scans := ss } := ⟨h.n1, h.n3, h.bl, (pm.nodup_iff).mpr h.sn, fun x hx => h.sr x (pm.mem_iff.mp hx), h.m0, h.m3, h.a1, h.a6, h.ws, h.st⟩
theorem dget_some {H : Hp} {d : Addr} {kvs : List (Key × V)} {k : Key} {v : V} (h : H d = some (.dK kvs)) (e : valV kvs k = some v) : DGet H d (kV k) (some v) := by
  have q := DGet.k (k := k) h
  rw [e] at q
  exact q
theorem strD_sh {n : Nat} {ws : List Str} : ∀ d ∈ strD ws, Shal n d ∧ ∀ es, d ≠ .tuple es := fun d hd => by
  obtain ⟨i, _, rfl⟩ := List.mem_map.mp hd
  exact ⟨.str i, fun es z => nomatch z⟩
theorem slips_sh {n : Nat} {a b : Int} : Shal (n + 1) (.tuple [.int a, .int b]) := .tup (fun d hd => by
  simp only [List.mem_cons, List.not_mem_nil, or_false] at hd
  rcases hd with rfl | rfl <;> exact .int _) (by show 2 ≤ 1000; decide)
section
variable {P : Program} {w : World} {K : PySem.W.Frag} {mg : Str → Option Value} {base : Heap}
/-- Line(..) of good values -/
theorem ln_make {C : Addr} {cA : Nat → Addr} {H : Hp} {vs : List V} {gV : List V → List V} {zs : List V} {l : LnD} {s t wd : Addr} {Q : VK} (hz : gV zs = [.ref s, .ref t, .ref wd, optV l.stretch]) (hv : vs = l.belts.map V.int) (hs : Sq K H s (l.scans.map V.int)) (ht : SqT K H t [.int l.most, .int l.among]) (hw : Sq K H wd (l.words.map V.str)) (ok : LnOk l)
    (k : ∀ (x : Addr) (H' : Hp) (ss : List Int), H x = none → Same H H' → ss.Perm l.scans → ss.Pairwise (· ≤ ·) → LnAt K C H' x { l with scans := ss } → Q (.ref x) H') : tMkS C (spLn K C cA) gV EF vs zs H Q := by
  subst hv
  have n3 := ok.n3
  have sl := ok.sl
  have w1 := ok.ws.length_le
  have w3 : slipW.length = 3 := rfl
  have len : (l.belts.map V.int).length = l.belts.length := List.length_map _
  refine ln_end (ds := intD l.belts) (dS := intD l.scans) (dW := strD l.words) (dP := .tuple [.int l.most, .int l.among]) (dT := optD l.stretch) hz (dpI _) (by rw [len]; omega) shI hs (dpI _) shI (by rw [List.length_map]; exact Nat.le_trans sl (by decide)) hw (dpS _) strD_sh (.tup ht (.cons (.int _) (.cons (.int _) .nil))) slips_sh (dpO _) (shO _) (fun n d e => ?_) (fun _ x dx t' tS tW ns H' hx sm hxf pm sr hT hS hW => ?_)
  · rw [len, lnErr_good ok] at e
    cases e
  · rw [map_dInt] at pm
    exact k x H' ns hx sm pm sr ⟨⟨dx, t', tS, t, tW, hxf, hT, hS, sqT_same ht sm, hW⟩, lnOk_perm ok pm⟩
abbrev sMadeL : Stmt := topT 41
def spMadeL (K : PySem.W.Frag) (C : Addr) : Sp := fun vs H Q _ => ∃ D b s t wd r pl, vs = [.ref D] ∧ PlanH H D b s t wd r pl ∧ LnOk (pl.line pl.scans) ∧
  ∀ (x : Addr) (H' : Hp) (ss : List Int), H x = none → Same H H' → ss.Perm pl.scans → ss.Pairwise (· ≤ ·) → LnAt K C H' x (pl.line ss) → Q (.ref x) H'
theorem scMadeL : FnScope ["_law_plan", "_law_belts_z"] ["_law_plan"] (defScope sMadeL) := ⟨rfl, rfl, rfl, by decide +kernel, rfl, by decide +kernel, by decide +kernel⟩
theorem planK_b (a b c d e f g h i j : V) : valV (planK a b c d e f g h i j) (Sum.inr "belts") = some a := by
  unfold planK
  rw [valV_pos rfl]
theorem planK_s (a b c d e f g h i j : V) : valV (planK a b c d e f g h i j) (Sum.inr "scans") = some b := by
  unfold planK
  rw [valV_neg (by exact fun z => absurd (Sum.inr.inj z) (by decide +kernel)), valV_pos rfl]
theorem planK_t (a b c d e f g h i j : V) : valV (planK a b c d e f g h i j) (Sum.inr "slips") = some c := by
  unfold planK
  rw [valV_neg (by exact fun z => absurd (Sum.inr.inj z) (by decide +kernel)), valV_neg (by exact fun z => absurd (Sum.inr.inj z) (by decide +kernel)), valV_pos rfl]
theorem planK_w (a b c d e f g h i j : V) : valV (planK a b c d e f g h i j) (Sum.inr "words") = some d := by
  unfold planK
  rw [valV_neg (by exact fun z => absurd (Sum.inr.inj z) (by decide +kernel)), valV_neg (by exact fun z => absurd (Sum.inr.inj z) (by decide +kernel)), valV_neg (by exact fun z => absurd (Sum.inr.inj z) (by decide +kernel)), valV_pos rfl]
theorem planK_x (a b c d e f g h i j : V) : valV (planK a b c d e f g h i j) (Sum.inr "stretch") = some e := by
  unfold planK
  rw [valV_neg (by exact fun z => absurd (Sum.inr.inj z) (by decide +kernel)), valV_neg (by exact fun z => absurd (Sum.inr.inj z) (by decide +kernel)), valV_neg (by exact fun z => absurd (Sum.inr.inj z) (by decide +kernel)), valV_neg (by exact fun z => absurd (Sum.inr.inj z) (by decide +kernel)), valV_pos rfl]
theorem ok_madeL {f fI C a0 a1 a2 : Addr} {cA : Nat → Addr} {fd : FuncData} (F : Fun K "_law_made_line" "_law_made_line" sMadeL f fd) (I : LnInit K fI a0 a1 a2) (T : LnF K mg C) (c : CkL P w K mg base cA) (M : Mk K C fI) :
    FnOk P w K mg base CX0 10 f fd ["_law_plan"] (spMadeL K C) := by
  refine F.ok scMadeL (fun vs H Q E h => ?_) (fun cdv A outer s H vs Q E hr h => ?_)
  · obtain ⟨D, b, s, t, wd, r, pl, rfl, _⟩ := h
    rfl
  · obtain ⟨D, b, sa, t, wd, r, pl, rfl, ph, ok, k⟩ := h
    have nd := scMadeL.nd
    have zL := T.zL
    have hu : (A.deeper (PyProof.Rows.envOfC "_law_made_line" (defScope sMadeL) s.heap.objs.size f cdv)).units + 1 < cLine := by have := hr.units; omega
    refine ⟨_, pss_cons (ps_set (i := 1) nd rfl (Or.inl rfl) (pe_dget hu (pv 0) pe_str (fun _ _ => rfl)))
      (pss_cons (ps_if (pt_cmpR op_eq (pe_callB call_len_seq (by rfl) zL PySem.boot_len (pa_cons (pv 1) pa_nil)) pe_int (nomark _))
        (pss_one (ps_ret (pe_mkS M (ln_all1 I T c) hr (by rfl) T.at_ passF (pa_cons (pe_ix ix_list (pv 1) pe_int (fun _ _ => rfl)) pa_nil) (pk_cons (pe_dget hu (pv 0) pe_str (fun _ _ => rfl)) (pk_cons (pe_dget hu (pv 0) pe_str (fun _ _ => rfl)) (pk_cons (pe_dget hu (pv 0) pe_str (fun _ _ => rfl)) (pk_cons (pe_dget hu (pv 0) pe_str (fun _ _ => rfl)) pk_nil))))))) pss_nil)
      (pss_cons (ps_if (pt_cmpR op_eq (pe_callB call_len_seq (by rfl) zL PySem.boot_len (pa_cons (pv 1) pa_nil)) pe_int (nomark _))
        (pss_one (ps_ret (pe_mkS M (ln_all2 I T c) hr (by rfl) T.at_ passF (pa_cons (pe_ix ix_list (pv 1) pe_int (fun _ _ => rfl)) (pa_cons (pe_ix ix_list (pv 1) pe_int (fun _ _ => rfl)) pa_nil)) (pk_cons (pe_dget hu (pv 0) pe_str (fun _ _ => rfl)) (pk_cons (pe_dget hu (pv 0) pe_str (fun _ _ => rfl)) (pk_cons (pe_dget hu (pv 0) pe_str (fun _ _ => rfl)) (pk_cons (pe_dget hu (pv 0) pe_str (fun _ _ => rfl)) pk_nil))))))) pss_nil)
      (pss_one (ps_ret (pe_mkS M (ln_all3 I T c) hr (by rfl) T.at_ passF (pa_cons (pe_ix ix_list (pv 1) pe_int (fun _ _ => rfl)) (pa_cons (pe_ix ix_list (pv 1) pe_int (fun _ _ => rfl)) (pa_cons (pe_ix ix_list (pv 1) pe_int (fun _ _ => rfl)) pa_nil))) (pk_cons (pe_dget hu (pv 0) pe_str (fun _ _ => rfl)) (pk_cons (pe_dget hu (pv 0) pe_str (fun _ _ => rfl)) (pk_cons (pe_dget hu (pv 0) pe_str (fun _ _ => rfl)) (pk_cons (pe_dget hu (pv 0) pe_str (fun _ _ => rfl)) pk_nil))))))))), ?_⟩
    have g1 := dget_some ph.dk (planK_b ..)
    have gs := dget_some ph.dk (planK_s ..)
    have gt := dget_some ph.dk (planK_t ..)
    have gw := dget_some ph.dk (planK_w ..)
    have gx := dget_some ph.dk (planK_x ..)
    have hl := SqL.of (K := K) ph.hb
    have fin : ∀ (gV : List V → List V) (zs vs : List V), gV zs = [.ref sa, .ref t, .ref wd, optV pl.stretch] → vs = pl.belts.map V.int → tMkS C (spLn K C cA) gV EF vs zs H Q := fun gV zs vs hz hv => ln_make (l := pl.line pl.scans) hz hv (.inl (SqL.of ph.hs)) (SqT.of ph.ht) (.inl (SqL.of ph.hw)) ok k
    have n1 : 1 ≤ pl.belts.length := ok.n1
    have n3 : pl.belts.length ≤ 3 := ok.n3
    match eb : pl.belts, n1, n3 with
    | [x], _, _ =>
      rw [eb] at hl fin
      refine ⟨_, rfl, D, _, rfl, g1, _, rfl, b, _, rfl, .inl hl, rfl, _, rfl, iteT ?_⟩
      refine ⟨_, rfl, b, _, _, _, rfl, rfl, hl, rfl, _, rfl, D, _, rfl, gs, _, rfl, D, _, rfl, gt, _, rfl, D, _, rfl, gw, _, rfl, D, _, rfl, gx, rfl, ?_⟩
      exact fin _ _ _ rfl rfl
    | [x, y], _, _ =>
      rw [eb] at hl fin
      refine ⟨_, rfl, D, _, rfl, g1, _, rfl, b, _, rfl, .inl hl, rfl, _, rfl, iteF ?_⟩
      refine ⟨_, rfl, b, _, rfl, .inl hl, rfl, _, rfl, iteT ?_⟩
      refine ⟨_, rfl, b, _, _, _, rfl, rfl, hl, rfl, _, rfl, b, _, _, _, rfl, rfl, hl, rfl, _, rfl, D, _, rfl, gx, _, rfl, D, _, rfl, gw, _, rfl, D, _, rfl, gt, _, rfl, D, _, rfl, gs, rfl, ?_⟩
      exact fin _ _ _ rfl rfl
    | [x, y, z], _, _ =>
      rw [eb] at hl fin
      refine ⟨_, rfl, D, _, rfl, g1, _, rfl, b, _, rfl, .inl hl, rfl, _, rfl, iteF ?_⟩
      refine ⟨_, rfl, b, _, rfl, .inl hl, rfl, _, rfl, iteF ?_⟩
      refine ⟨_, rfl, b, _, _, _, rfl, rfl, hl, rfl, _, rfl, b, _, _, _, rfl, rfl, hl, rfl, _, rfl, b, _, _, _, rfl, rfl, hl, rfl, _, rfl, D, _, rfl, gt, _, rfl, D, _, rfl, gs, _, rfl, D, _, rfl, gx, _, rfl, D, _, rfl, gw, rfl, ?_⟩
      exact fin _ _ _ rfl rfl
    | [], n, _ => exact absurd n (by show ¬ 1 ≤ 0; decide)
    | _ :: _ :: _ :: _ :: l, _, n => exact absurd n (by show ¬ (l.length + 1 + 1 + 1 + 1) ≤ 3; omega)
end
end Own

namespace Own
open PySem L2 ClX PySem.Spec PyProof.Rows
/-! ### o.m(k = v, ..), every parameter given -/
/-- o.m(k = v, ..) of an instance of C, by name alone -/
def tMethN (C : Addr) (m : Str) (n : Nat) (sp : Sp) (gV : List V → List V → List V) (E : XK) (ta : TE) (tk : TA) : TE := fun σ H Q => ta σ H fun x H1 => ∃ a dx fs, x = .ref a ∧ H1 a = some (.ins C dx fs) ∧ fs.lookup m = none ∧
  tk σ H1 fun zs H2 => zs.length = n ∧ sp (gV [x] zs) H2 Q E
section
variable {X : Cx} {CX : CXT} {k : Nat} {f C : Addr} {fd : FuncData} {ps ks : List Str} {sp : Sp} {E : XK} {m : Str} {o : Expr} {kws : List Keyword} {ta : TE} {tk : TA} {p pos apos : Pos} {pl : Sem Bool} {g : List Value → List Value → List Value} {gV : List V → List V → List V}
theorem pe_methN (c : Cls X.K C) (km : Meth X.K C m f) (F : FnOk X.prog X.w X.K X.mg X.base CX k f fd ps sp) (hr : Room k X.A) (kp : PySem.W.keepIn X.K (.ref f) = true) (hb : KBn X.K fd ps 1 ks g gV) (hx : Passes CX X E) (ho : PE X o ta) (hkw : PK X kws tk)
    (hall : (backToKw pos (keywordEach kws X.env)).all (·.1.isSome) = true := by rfl) (hks : (backToKw pos (keywordEach kws X.env)).filterMap (·.1) = ks := by rfl)
    (hpl : ((backTo pos (starEach [] X.env)).any (·.1) || (backToKw pos (keywordEach kws X.env)).any (·.1.isNone)) = false := by rfl)
    (he : eval (.Call (.Attribute o m apos) [] kws pos) X.env = (do
      let ov ← eval o X.env
      standAt apos.atName
      let (f, first) ← holding [ov] (getMethod ov m pl)
      callWith pos f first (backTo pos (starEach [] X.env)) (backToKw pos (keywordEach kws X.env))) := by rfl) :
    PE X (.Call (.Attribute o m apos) [] kws pos) (tMethN C m ks.length sp gV E ta tk) := by
  refine ⟨fun pins s σ H Q I h => ?_⟩
  refine PySem.W.methodCall_KW (thn (ho.run pins s σ H _ I h) fun u s1 ⟨x, H1, I1, rx, a, dx, fs, ex, hi, hl, q⟩ => ?_) he
  subst ex
  obtain rfl : u = Value.ref a := rx
  refine getmeth_ok I1 hi c km hl ?_
  refine PySem.W.callWith_KW0 (h₀ := X.base) I1.ok.mod.kin kp hall (thn (hkw.run pos pins s1 σ H1 _ I1 q) fun ws s2 ⟨zs, H2, I2, rz, l2, q2⟩ => ⟨I2.kIn, ?_⟩) hpl
  rw [hks]
  exact run_fnN F hr hb hx I2 (.cons (show L2.RelV (.ref a) (.ref a) from rfl) .nil) rz rfl l2 q2
end
section
variable {K : PySem.W.Frag}
/-- every parameter given, those from the n-th on by name in the order ks -/
theorem kbn_all {x qual : Str} {st : Stmt} {f : Addr} {fd : FuncData} {ps ks : List Str} (n : Nat) (g : {α : Type} → List α → List α → List α) (F : Fun K x qual st f fd)
    (hrel : ∀ {vs zs : List V} {us ws : List Value}, Vals vs us → Vals zs ws → Vals (g vs zs) (g us ws))
    (h : ∀ (kV doc pm : Value) (an : Option Addr) (cdv ct : Value) (us ws : List Value), us.length = n → ws.length = ks.length → bindArgs (PySem.W.fnOf x qual (defArgs st) (defBody st) (defScope st) .none kV doc pm an cdv ct) ⟨us, ks.zip ws⟩ = pure (ps.zip (g us ws))) : KBn K fd ps n ks (fun us ws => g us ws) (fun vs zs => g vs zs) := by
  obtain ⟨oc, od, kV, doc, pm, an, cdv, ct, osl, rfl, lk, hcd⟩ := F.ex
  exact ⟨fun s us ws _ l1 l2 => .of_eq (h kV doc pm an cdv ct us ws l1 l2), fun r1 r2 => hrel r1 r2⟩
def gApp {α : Type} : List α → List α → List α := fun us ws => us ++ ws
end
end Own

namespace Own
open PySem L2 ClX PySem.HandSPX
section
variable {P : Program} {w : World} {K : PySem.W.Frag} {mg : Str → Option Value} {base : Heap}
/-- _law_why of a function that raises -/
theorem why_raise {cB cM cZ f : Addr} {H : Hp} {cname : Str} {dt : PyData} {Q : VK} {E : XK} (wr : WillRaise P w K mg base cB cM cZ H f cname dt) (k : ∀ (H' : Hp) (T : Addr), Same H H' → Dp K H' (.ref T) (dueD (cname, dt)) → Q (.ref T) H') : spWhy P w K mg base cB cM cZ [.ref f] H Q E := by
  obtain ⟨sp0, ask, wr⟩ := wr
  refine ⟨f, sp0, rfl, ask, fun Q' E' h1 h2 => wr H (Same.refl _) Q' E' fun C dd attr H2 eo et => h2 _ _ _ ?_⟩
  obtain ⟨s2, nd, fs', y, hx, l1, l2, hy⟩ := eo
  refine ⟨C, dd, fs', _, attr, y, rfl, rfl, et, hx, l1, l2, fun H3 T T1 s3 nT nT1 hT hT1 => ?_⟩
  have s23 : Same H H3 := fun b o e => s3 b o (ne_of_none e nd) (s2 _ _ e)
  have sq : Seqs (newr H H2) H3 := fun b o n e => by
    unfold newr at e
    split at e
    · refine s3 b o (fun z => ?_) e
      rw [z, hx] at e
      cases e
      obtain ⟨xs, h | h | ⟨ob, h⟩ | ⟨ob, h⟩⟩ := n <;> cases h
    · cases e
  exact k H3 T s23 (.tup (SqT.of hT) (.cons (.str _) (.cons (.tup (SqT.of hT1) (.cons (dp_seqs sq _ _ hy) .nil)) .nil)))
theorem inV_mem {x : Int} {ns : List Int} : inV (.int x) (ns.map V.int) = decide (x ∈ ns) := by
  by_cases h : x ∈ ns
  · rw [decide_eq_true h]
    unfold inV
    simp only [List.any_map, List.any_eq_true, Function.comp]
    exact ⟨x, h, by simp [eqV]⟩
  · rw [decide_eq_false h]
    exact inV_ints h
end
end Own

namespace Own
open PySem L2
/-! ### comprehensions whose items are known -/
theorem take_snoc {α : Type} {ys : List α} {i : Nat} {y : α} (h : ys[i]? = some y) : ys.take i ++ [y] = ys.take (i + 1) := by
  rw [List.take_add_one, h]; rfl
section
variable {K : PySem.W.Frag} {a : Addr} {xs ys : List V} {g : TG} {te : TE} {vs : List Nat} {σ : L2.St} {H1 : Hp} {D : Addr} {Qd : Hp → Prop}
theorem lc_map (ys : List V) (hl : ys.length = xs.length) (hz : ys.length < sizeLine) (ha : SqL K H1 a xs) (nD : H1 D = none)
    (hs : ∀ (i : Nat) (x y : V) (H' : Hp) (R : V → Hp → Prop), xs[i]? = some x → ys[i]? = some y → Same H1 H' → (∀ H2, Same H' H2 → R y H2) → g x (wipe σ vs) H' fun σ2 H2 => wipe σ2 vs = wipe σ vs ∧ tYes σ2 H2 fun b H3 => if b = true then te σ2 H3 R else False) (hd : ∀ H, Same H1 H → H D = some (.lst ys) → Qd H)
    (hg : ∀ (x : V) (s : L2.St) (H : Hp) (R R' : L2.St → Hp → Prop), (∀ σ2 H2, R σ2 H2 → R' σ2 H2) → g x s H R → g x s H R') :
    ∃ W : Nat → Nat → Hp → Prop, (∃ m, W 0 m (upd H1 D (.lst []))) ∧ ∀ i m H, W i m H →
      ((Itl K a).stop i H ∧ Qd H) ∨ ((Itl K a).go i H ∧ ∃ Nx : Hp → Prop, (∀ H', Nx H' → ∃ m', m' < m ∧ W (i + 1) m' H') ∧ ∀ x H', (Itl K a).yld i H x H' → g x (wipe σ vs) H' fun σ2 H2 => wipe σ2 vs = wipe σ vs ∧ tYes σ2 H2 fun b H3 =>
        if b = true then te σ2 H3 fun y H4 => ∃ acc, H4 D = some (.lst acc) ∧ acc.length < sizeLine ∧ Nx (upd H4 D (.lst (acc ++ [y]))) else Nx H3) := by
  refine lc_list (K := K) (a := a) (xs := xs) (fun i H' => Same H1 H' ∧ H' D = some (.lst (ys.take i))) ⟨(Same.refl _).new nD, upd_same⟩ (fun i H' _ q => ?_) ?_ ?_
  · rcases ha with (h | ⟨o, h⟩) | h
    · exact .inl (.inl (q.1 _ _ h))
    · exact .inl (.inr ⟨o, q.1 _ _ h⟩)
    · exact .inr h
  · rintro i x H' hi ⟨sm, hD⟩
    have hlt : i < ys.length := by
      rw [hl]
      exact (List.getElem?_eq_some_iff.mp hi).1
    have hy : ys[i]? = some ys[i] := List.getElem?_eq_getElem hlt
    refine hg _ _ _ _ _ (fun σ2 H2 q => ⟨q.1, ?_⟩) (hs i x _ H' (fun y H4 => ∃ acc, H4 D = some (.lst acc) ∧ acc.length < sizeLine ∧ Same H1 (upd H4 D (.lst (acc ++ [y]))) ∧ upd H4 D (.lst (acc ++ [y])) D = some (.lst (ys.take (i + 1)))) hi hy sm fun H2 s2 => ?_)
    · exact q.2
    · refine ⟨_, s2 _ _ hD, ?_, (sm.trans s2).own nD, ?_⟩
      · rw [List.length_take]
        exact Nat.lt_of_le_of_lt (Nat.min_le_right _ _) hz
      · rw [upd_same, take_snoc hy]
  · rintro H' ⟨sm, hD⟩
    rw [← hl, List.take_length] at hD
    exact hd H' sm hD
end
def boolD (bs : List Bool) : List PyData := bs.map PyData.bool
theorem dpB {K : PySem.W.Frag} {H : Hp} : ∀ bs : List Bool, DpAll K H (bs.map V.bl) (boolD bs)
  | [] => .nil
  | b :: bs => .cons (.bl b) (dpB bs)
theorem shB {n : Nat} {bs : List Bool} : ∀ d ∈ boolD bs, Shal n d := fun d hd => by
  obtain ⟨i, _, rfl⟩ := List.mem_map.mp hd
  exact .bl i
theorem gName_mono {i : Nat} (x : V) (s : L2.St) (H : Hp) (R R' : L2.St → Hp → Prop) (h : ∀ σ2 H2, R σ2 H2 → R' σ2 H2) (q : gName i x s H R) : gName i x s H R' := h _ _ q
end Own

namespace Own
open PySem L2 ClX PySem.HandSPX NdefX
abbrev sCkF : Stmt := topT 18
theorem upd_back {H : Hp} {a : Addr} {o u : HO} (h : H a = some u) : upd (upd H a o) a u = H := by
  funext b
  by_cases e : b = a
  · rw [e, upd_same, h]
  · rw [upd_ne e, upd_ne e]
theorem scCkF : FnScope ["fields", "names", "name"] ["fields", "names"] (defScope sCkF) := ⟨rfl, rfl, rfl, by decide +kernel, rfl, by decide +kernel, by decide +kernel⟩
def fieldsL : List Str := ["belts", "scans", "slips", "words", "stretch"]
/-- the first key that is none of the words -/
def badKey (l : List (Str × V)) (ws : List Str) : Option Str := (l.find? fun q => !wordB (.str q.1) ws).map (·.1)
/-- as ErrOut; the dict at d may be locked -/
def ErrOutB (K : PySem.W.Frag) (d : Addr) (H H' : Hp) (dd : Addr) (cname attr : Str) (dt : PyData) : Prop := (∀ b o, b ≠ d → H b = some o → H' b = some o) ∧ H dd = none ∧ ∃ (fs : List (Str × V)) (y : V), H' dd = some (.xd fs) ∧ fs.lookup ("code" : Str) = some (V.str cname) ∧ fs.lookup attr = some y ∧ Dp K (newr H H') y dt
def spCkFX (K : PySem.W.Frag) (cF : Addr) : Sp := fun vs H Q E => ∃ (d t : Addr) (l : List (Str × V)) (ws : List Str), vs = [.ref d, .ref t] ∧ H d = some (.dK (kwV l)) ∧ KT K t (ws.map V.str) ∧
  (badKey l ws = none → Q .non H) ∧ (∀ z, badKey l ws = some z → ∀ dd H', ErrOutB K d H H' dd "InvalidField" "name" (.str z) → E (.ref cF) (some dd) H')
section
variable {P : Program} {w : World} {K : PySem.W.Frag} {mg : Str → Option Value} {base : Heap}
theorem badKey_at {l : List (Str × V)} {ws : List Str} {i : Nat} {q : Str × V} (hi' : l[i]? = some q) (hp : ∀ (j : Nat) (q' : Str × V), j < i → l[j]? = some q' → wordB (.str q'.1) ws = true) (hb : wordB (.str q.1) ws = false) : badKey l ws = some q.1 := by
  unfold badKey
  have : l.find? (fun q => !wordB (.str q.1) ws) = some q := by
    induction l generalizing i with
    | nil => cases hi'
    | cons e r ih =>
      cases i with
      | zero =>
        cases hi'
        exact List.find?_cons_of_pos (by rw [hb]; rfl)
      | succ i =>
        have h0 := hp 0 e (Nat.succ_pos _) rfl
        rw [List.find?_cons_of_neg (by rw [h0]; simp)]
        exact ih hi' fun j d' hj e' => hp (j + 1) d' (Nat.succ_lt_succ hj) e'
  rw [this]
  rfl
theorem badKey_none {l : List (Str × V)} {ws : List Str} (hp : ∀ (j : Nat) (q' : Str × V), l[j]? = some q' → wordB (.str q'.1) ws = true) : badKey l ws = none := by
  unfold badKey
  have : l.find? (fun q => !wordB (.str q.1) ws) = none := by
    rw [List.find?_eq_none]
    intro q hq
    obtain ⟨j, hj⟩ := List.getElem?_of_mem hq
    rw [hp j q hj]
    simp
  rw [this]
  rfl
theorem ok_ckFX {f cF : Addr} {fd : FuncData} (F : Fun K "check_fields" "check_fields" sCkF f fd) (c : ErrC P w K mg base "InvalidField" "name" cF) : FnOk P w K mg base (L2.CX P w) 6 f fd ["fields", "names"] (spCkFX K cF) := by
  refine F.okX scCkF (fun vs H Q E h => ?_) (fun cdv A outer s H vs Q E hr h => ?_)
  · obtain ⟨d, t, l, ws, rfl, _⟩ := h
    rfl
  · obtain ⟨d, t, l, ws, rfl, hd, ht, k1, k2⟩ := h
    refine ⟨_, pss_one (ps_lock (ps_for (passes_of rfl) rfl (pi_keys (pv 0)) (pg_name (i := 2) scCkF.nd rfl (Or.inl rfl)) (pss_one (ps_if (pt_cmpR op_notIn_seq (pv 2) (pv 1) (by rfl)) (pss_one (ps_raise rfl (takes_of rfl rfl rfl rfl) (pmk_err c hr (by rfl) (pa_cons (pv 2) pa_nil) (fun σ H R R' f ⟨x, h, q⟩ => ⟨x, h, f _ _ q⟩)))) pss_nil)))), ?_⟩
    refine ⟨d, _, hd, trivial, fun od => ?_⟩
    refine ⟨_, rfl, d, od, rfl, .inl ⟨kwV l, upd_same, ?_⟩⟩
    refine for_it walk_keys (fun i σ H' => ∃ v : Option V, σ = [some (.ref d), some (.ref t), v] ∧ H' = upd H d (.frz od (.dK (kwV l))) ∧ ∀ (j : Nat) (q' : Str × V), j < i → l[j]? = some q' → wordB (.str q'.1) ws = true) ⟨_, rfl, rfl, fun j q' hj => absurd hj (Nat.not_lt_zero _)⟩ ?_ ?_ ?_
    · rintro i σ H' _ ⟨v, rfl, rfl, _⟩
      exact upd_same
    · rintro i x σ H' H'' hi ⟨v, rfl, rfl, hp⟩ ⟨rfl, k', v', hk, rfl⟩
      obtain ⟨q, hq, e⟩ : ∃ q, l[i]? = some q ∧ (k', v') = ((Sum.inr q.1 : Key), q.2) := by
        have hk' : (l.map fun q : Str × V => ((Sum.inr q.1 : Key), q.2))[i]? = some (k', v') := hk
        rw [List.getElem?_map] at hk'
        cases e : l[i]? with
        | none => rw [e] at hk'; cases hk'
        | some q => rw [e] at hk'; exact ⟨q, rfl, (Option.some.inj hk').symm⟩
      obtain ⟨rfl, rfl⟩ := Prod.mk.inj e
      refine ⟨_, rfl, _, rfl, t, _, rfl, .inr (.inr ht), rfl, all_flat ws, _, rfl, ?_⟩
      show if (!inV (.str q.1) (ws.map V.str)) = true then _ else _
      rw [str_inV]
      refine ite2 (fun c => ?_) (fun c => ?_)
      · have hb : wordB (.str q.1) ws = false := by simpa using c
        exact ⟨_, rfl, .str q.1, .str q.1, rfl, .str _, .str _, fun dd H' eo => k2 q.1 (badKey_at hq hp hb) dd H' ⟨fun b o hbd hbo => eo.1 b o (by rw [upd_ne hbd]; exact hbo), upd_none eo.2.1, by
          obtain ⟨_, _, fs, y, e3, e4, e5, e6⟩ := eo
          exact ⟨fs, y, e3, e4, e5, dp_same (fun b o q => by
            obtain ⟨q1, q2⟩ := newr_some q
            rw [newr_at (upd_none q1)]
            exact q2) _ _ e6⟩⟩⟩
      · have hb : wordB (.str q.1) ws = true := by simpa using c
        refine ⟨_, rfl, rfl, fun j q' hj hj' => ?_⟩
        rcases Nat.lt_succ_iff_lt_or_eq.mp hj with hj | rfl
        · exact hp j q' hj hj'
        · rw [hq] at hj'
          cases hj'
          exact hb
    · rintro σ H' ⟨v, rfl, rfl, hp⟩
      refine ⟨upd_same, ?_⟩
      show Q .non (upd (upd H d _) d _)
      rw [upd_back hd]
      refine k1 (badKey_none fun j q' hj => hp j q' ?_ hj)
      have h1 := (List.getElem?_eq_some_iff.mp hj).1
      show j < (kwV l).length
      unfold kwV
      rw [List.length_map]
      exact h1
end
end Own

namespace Own
open PySem L2 ClX PySem.HandSPX
abbrev sLC : Stmt := sLG 9
/-- a field's value: the keyword's, or the line's -/
def fv (l : List (Str × V)) (x : Str) (v : V) : V := (valV (kwV l) (Sum.inr x)).getD v
def spChL (K : PySem.W.Frag) (C : Addr) (cA : Nat → Addr) (cF : Addr) : Sp := fun vs H Q E => ∃ (a d dx t tS tW : Addr) (vP vT : V) (l : List (Str × V)), vs = [.ref a, .ref d] ∧ H a = some (.ins C dx (lnf t tS vP tW vT)) ∧ H d = some (.dK (kwV l)) ∧
  ((∃ z, badKey l fieldsL = some z ∧ ∀ dd H', ErrOutB K d H H' dd "InvalidField" "name" (.str z) → E (.ref cF) (some dd) H') ∨
   (badKey l fieldsL = none ∧ ∃ (B aS aW : Addr) (xs xS xW : List V) (ds dS dW : List PyData) (dP dT : PyData), fv l "belts" (.ref t) = .ref B ∧ (SqT K H B xs ∨ SqL K H B xs) ∧ fv l "scans" (.ref tS) = .ref aS ∧ fv l "words" (.ref tW) = .ref aW ∧
    DpAll K H xs ds ∧ xs.length ≤ 1000 ∧ (∀ d ∈ ds, Shal 2 d) ∧ Sq K H aS xS ∧ DpAll K H xS dS ∧ (∀ d ∈ dS, Shal 2 d) ∧ xS.length ≤ sizeLine ∧ Sq K H aW xW ∧ DpAll K H xW dW ∧ (∀ d ∈ dW, Shal 2 d ∧ ∀ es, d ≠ .tuple es) ∧ Dp K H (fv l "slips" vP) dP ∧ Shal 2 dP ∧ Dp K H (fv l "stretch" vT) dT ∧ Shal 2 dT ∧
    (∀ n d, lnErr xs.length ds dS dP dW dT = some (n, d) → ∀ dd H', ErrOut K H H' dd (errN n) "given" d → E (.ref (cA n)) (some dd) H') ∧
    (lnErr xs.length ds dS dP dW dT = none → ∀ (x dx t tS tW : Addr) (ns : List Int) (H' : Hp), H x = none → Same H H' → H' x = some (.ins C dx (lnf t tS (fv l "slips" vP) tW (fv l "stretch" vT))) → ns.Perm (dS.map dInt) → ns.Pairwise (· ≤ ·) → SqT K H' t xs → SqT K H' tS (ns.map V.int) → SqT K H' tW xW → Q (.ref x) H')))
/-- Line.changed as it stands behind the top -/
structure LnCh (K : PySem.W.Frag) (f : Addr) : Prop where
  ex : ∃ (oc : Value) (od : Option Addr) (kV doc pm : Value) (an : Option Addr) (cdv ct : Value) (osl : Array (Option Value)), K.lookup f = some ⟨oc, od, .func (PySem.W.fnOf "changed" "Line.changed" (defArgs sLC) (defBody sLC) (defScope sLC) .none kV doc pm an cdv ct), osl⟩ ∧ PySem.W.codeIn K cdv "Line.changed" = true
  kp : PySem.W.keepIn K (.ref f) = true
section
variable {P : Program} {w : World} {K : PySem.W.Frag} {mg : Str → Option Value} {base : Heap}
abbrev NCh : List Str := ["self", "fields", "belts", "scans", "slips", "words", "stretch"]
theorem scLC : FnScope NCh ["self", "fields"] (defScope sLC) := ⟨rfl, rfl, rfl, by decide +kernel, rfl, by decide +kernel, by decide +kernel⟩
/-- what changed leans on -/
structure ChF (P : Program) (w : World) (K : PySem.W.Frag) (mg : Str → Option Value) (base : Heap) (fI C a0 a1 a2 : Addr) (cA : Nat → Addr) (cF : Addr) : Prop where
  T : LnF K mg C
  M : Mk K C fI
  I : LnInit K fI a0 a1 a2
  c : CkL P w K mg base cA
  F : ∃ f fd, FnOk P w K mg base (L2.CX P w) 6 f fd ["fields", "names"] (spCkFX K cF) ∧ mg "check_fields" = some (.ref f) ∧ PySem.W.keepIn K (.ref f) = true ∧ Binds K fd ["fields", "names"] []
  wf : ∃ t, mg "LINE_FIELDS" = some (.ref t) ∧ KT K t (fieldsL.map V.str)
theorem body_chL {f fI C a0 a1 a2 cF : Addr} {cA : Nat → Addr} {qual : Str} {cdv : Value} {A : Around} {outer : List Env} {s : Shared} {H : Hp} {vs : List V} {Q : VK} {E : XK} (ch : ChF P w K mg base fI C a0 a1 a2 cA cF)
    (hr : Room 9 (A.deeper (PyProof.Rows.envOfC qual (defScope sLC) s.heap.objs.size f cdv))) (h : spChL K C cA cF vs H Q E) :
    ∃ t, PSs (cxOf (L2.CX P w) P w K mg base NCh qual (defScope sLC) f cdv A outer s H E) (defBody sLC) t ∧ t { nx := fun _ H' => Q .non H', rt := Q } (start NCh vs) H := by
  obtain ⟨a, d, dx, t, tS, tW, vP, vT, l, rfl, ha, hd, hh⟩ := h
  obtain ⟨fF, gF, GF, mF, kF, bF⟩ := ch.F
  obtain ⟨tf, mf, kf⟩ := ch.wf
  have T := ch.T
  have nd := scLC.nd
  have hu : (A.deeper (PyProof.Rows.envOfC qual (defScope sLC) s.heap.objs.size f cdv)).units + 1 < cLine := by have := hr.units; omega
  have px : Passes (L2.CX P w) (cxOf (L2.CX P w) P w K mg base NCh qual (defScope sLC) f cdv A outer s H E) E := passes_call (takes_of rfl rfl rfl rfl) (fun _ _ _ _ h => h)
  refine ⟨_, pss_cons (ps_expr (pe_call GF (hr.mono (by decide)) rfl mF kF bF .nil px (pa_cons (pv 1) (pa_cons (pe_glob (v := .ref tf) (by rfl) mf rfl) pa_nil))))
    (pss_cons (ps_set (i := 2) nd rfl (Or.inl rfl) (pe_dget2 hu (pv 1) pe_str (pe_fld (pv 0) rfl) ⟨rfl, rfl, rfl, rfl⟩))
    (pss_cons (ps_set (i := 3) nd rfl (Or.inl rfl) (pe_dget2 hu (pv 1) pe_str (pe_fld (pv 0) rfl) ⟨rfl, rfl, rfl, rfl⟩))
    (pss_cons (ps_set (i := 4) nd rfl (Or.inl rfl) (pe_dget2 hu (pv 1) pe_str (pe_fld (pv 0) rfl) ⟨rfl, rfl, rfl, rfl⟩))
    (pss_cons (ps_set (i := 5) nd rfl (Or.inl rfl) (pe_dget2 hu (pv 1) pe_str (pe_fld (pv 0) rfl) ⟨rfl, rfl, rfl, rfl⟩))
    (pss_cons (ps_set (i := 6) nd rfl (Or.inl rfl) (pe_dget2 hu (pv 1) pe_str (pe_fld (pv 0) rfl) ⟨rfl, rfl, rfl, rfl⟩))
    (pss_one (ps_ret (pe_mkSs ch.M (ln_all1 ch.I T ch.c) hr (by rfl) T.at_ px (pv 2) (pk_cons (pv 3) (pk_cons (pv 4) (pk_cons (pv 5) (pk_cons (pv 6) pk_nil)))))))))))), ?_⟩
  refine ⟨_, rfl, d, tf, l, fieldsL, rfl, hd, kf, fun hb => ?_, fun z hb => ?_⟩
  rotate_left
  · rcases hh with ⟨z', hz', k⟩ | ⟨hn, _⟩
    · rw [hb] at hz'
      cases hz'
      exact k
    · rw [hb] at hn
      cases hn
  rcases hh with ⟨z', hz', _⟩ | ⟨_, B, aS, aW, xs, xS, xW, ds, dS, dW, dP, dT, eB, hB, eS, eW, hds, hl, hsh, hS, hdS, hsS, hzS, hW, hdW, hsW, hP, hsP, hT, hsT, kE, kQ⟩
  · rw [hb] at hz'
    cases hz'
  refine ⟨_, rfl, d, rfl, .inl ⟨_, .inl hd⟩, _, rfl, a, C, dx, _, _, rfl, ha, T.cl, T.n1, rfl, _, DGet.k (k := Sum.inr "belts") hd, ?_⟩
  refine ⟨_, rfl, d, rfl, .inl ⟨_, .inl hd⟩, _, rfl, a, C, dx, _, _, rfl, ha, T.cl, T.n2, rfl, _, DGet.k (k := Sum.inr "scans") hd, ?_⟩
  refine ⟨_, rfl, d, rfl, .inl ⟨_, .inl hd⟩, _, rfl, a, C, dx, _, _, rfl, ha, T.cl, T.n3, rfl, _, DGet.k (k := Sum.inr "slips") hd, ?_⟩
  refine ⟨_, rfl, d, rfl, .inl ⟨_, .inl hd⟩, _, rfl, a, C, dx, _, _, rfl, ha, T.cl, T.n4, rfl, _, DGet.k (k := Sum.inr "words") hd, ?_⟩
  refine ⟨_, rfl, d, rfl, .inl ⟨_, .inl hd⟩, _, rfl, a, C, dx, _, _, rfl, ha, T.cl, T.n5, rfl, _, DGet.k (k := Sum.inr "stretch") hd, ?_⟩
  refine ⟨_, rfl, _, rfl, _, rfl, _, rfl, _, rfl, B, xs, eB, hB, rfl, ?_⟩
  refine ln_end (aS := aS) (aW := aW) (vP := fv l "slips" vP) (vT := fv l "stretch" vT) ?_ hds hl hsh hS hdS hsS hzS hW hdW hsW hP hsP hT hsT kE kQ
  show [fv l "scans" (.ref tS), fv l "slips" vP, fv l "words" (.ref tW), fv l "stretch" vT] = _
  rw [eS, eW]
theorem ch_of {f fI C a0 a1 a2 cF : Addr} {cA : Nat → Addr} {ks : List Str} (I : LnCh K f) (ch : ChF P w K mg base fI C a0 a1 a2 cA cF) (hnd : ks.Nodup) (hsz : ks.length ≤ sizeLine)
    (hb : ∀ (kV doc pm : Value) (an : Option Addr) (cdv ct a : Value) (ws : List Value), ws.length = ks.length → bindArgs (PySem.W.fnOf "changed" "Line.changed" (defArgs sLC) (defBody sLC) (defScope sLC) .none kV doc pm an cdv ct) ⟨[a], ks.zip ws⟩ =
      (alloc ({ cls := .type "dict", data := .dict #[] } : Obj) : Sem Addr) >>= fun d => (forIn (ks.zip ws) PUnit.unit fun x _ => (nsSet d x.1 x.2 >>= fun _ => pure (ForInStep.yield PUnit.unit))) >>= fun _ => pure [(("self" : Str), a), (("fields" : Str), Value.ref d)]) :
    FnKw P w K mg base (L2.CX P w) 10 f ks (spChL K C cA cF) := by
  obtain ⟨oc, od, kV, doc, pm, an, cdv, ct, osl, lk, hcd⟩ := I.ex
  exact fn_kwo (p0 := "self") (pd := "fields") lk hcd scLC StX.cxUp hnd hsz (fun a ws l => hb kV doc pm an cdv ct a ws l)
    (fun A outer s H vs Q E hr h => body_chL ch hr h)
variable {f fI C a0 a1 a2 cF : Addr} {cA : Nat → Addr}
theorem ch_0 (I : LnCh K f) (ch : ChF P w K mg base fI C a0 a1 a2 cA cF) : FnKw P w K mg base (L2.CX P w) 10 f [] (spChL K C cA cF) := ch_of I ch (by decide) (by decide) (fun kV doc pm an cdv ct a ws l => match ws, l with | [], _ => rfl)
theorem ch_belts (I : LnCh K f) (ch : ChF P w K mg base fI C a0 a1 a2 cA cF) : FnKw P w K mg base (L2.CX P w) 10 f ["belts"] (spChL K C cA cF) := ch_of I ch (by decide +kernel) (by show 1 ≤ sizeLine; decide) (fun kV doc pm an cdv ct a ws l => match ws, l with | [_], _ => rfl)
theorem ch_stretch (I : LnCh K f) (ch : ChF P w K mg base fI C a0 a1 a2 cA cF) : FnKw P w K mg base (L2.CX P w) 10 f ["stretch"] (spChL K C cA cF) := ch_of I ch (by decide +kernel) (by show 1 ≤ sizeLine; decide) (fun kV doc pm an cdv ct a ws l => match ws, l with | [_], _ => rfl)
theorem ch_words (I : LnCh K f) (ch : ChF P w K mg base fI C a0 a1 a2 cA cF) : FnKw P w K mg base (L2.CX P w) 10 f ["words"] (spChL K C cA cF) := ch_of I ch (by decide +kernel) (by show 1 ≤ sizeLine; decide) (fun kV doc pm an cdv ct a ws l => match ws, l with | [_], _ => rfl)
theorem ch_slips (I : LnCh K f) (ch : ChF P w K mg base fI C a0 a1 a2 cA cF) : FnKw P w K mg base (L2.CX P w) 10 f ["slips"] (spChL K C cA cF) := ch_of I ch (by decide +kernel) (by show 1 ≤ sizeLine; decide) (fun kV doc pm an cdv ct a ws l => match ws, l with | [_], _ => rfl)
theorem ch_scans (I : LnCh K f) (ch : ChF P w K mg base fI C a0 a1 a2 cA cF) : FnKw P w K mg base (L2.CX P w) 10 f ["scans"] (spChL K C cA cF) := ch_of I ch (by decide +kernel) (by show 1 ≤ sizeLine; decide) (fun kV doc pm an cdv ct a ws l => match ws, l with | [_], _ => rfl)
theorem ch_wt (I : LnCh K f) (ch : ChF P w K mg base fI C a0 a1 a2 cA cF) : FnKw P w K mg base (L2.CX P w) 10 f ["words", "stretch"] (spChL K C cA cF) := ch_of I ch (by decide +kernel) (by show 2 ≤ sizeLine; decide) (fun kV doc pm an cdv ct a ws l => match ws, l with | [_, _], _ => rfl)
theorem ch_sp (I : LnCh K f) (ch : ChF P w K mg base fI C a0 a1 a2 cA cF) : FnKw P w K mg base (L2.CX P w) 10 f ["scans", "slips"] (spChL K C cA cF) := ch_of I ch (by decide +kernel) (by show 2 ≤ sizeLine; decide) (fun kV doc pm an cdv ct a ws l => match ws, l with | [_, _], _ => rfl)
theorem ch_rb (I : LnCh K f) (ch : ChF P w K mg base fI C a0 a1 a2 cA cF) : FnKw P w K mg base (L2.CX P w) 10 f ["rooms", "belts"] (spChL K C cA cF) := ch_of I ch (by decide +kernel) (by show 2 ≤ sizeLine; decide) (fun kV doc pm an cdv ct a ws l => match ws, l with | [_, _], _ => rfl)
theorem ch_pk (I : LnCh K f) (ch : ChF P w K mg base fI C a0 a1 a2 cA cF) : FnKw P w K mg base (L2.CX P w) 10 f ["slips", "seek"] (spChL K C cA cF) := ch_of I ch (by decide +kernel) (by show 2 ≤ sizeLine; decide) (fun kV doc pm an cdv ct a ws l => match ws, l with | [_, _], _ => rfl)
theorem ch_tw (I : LnCh K f) (ch : ChF P w K mg base fI C a0 a1 a2 cA cF) : FnKw P w K mg base (L2.CX P w) 10 f ["stretch", "words"] (spChL K C cA cF) := ch_of I ch (by decide +kernel) (by show 2 ≤ sizeLine; decide) (fun kV doc pm an cdv ct a ws l => match ws, l with | [_, _], _ => rfl)
/-- changed(..) of good values -/
theorem ch_make {H : Hp} {a d dx t tS tP tW B aS aP aW : Addr} {st : Option Int} {kw : List (Str × V)} {l : LnD} {Q : VK} {E : XK} (ha : H a = some (.ins C dx (lnf t tS (.ref tP) tW (optV st)))) (hd : H d = some (.dK (kwV kw))) (hb : badKey kw fieldsL = none) (ok : LnOk l)
    (eB : fv kw "belts" (.ref t) = .ref B) (hB : SqT K H B (l.belts.map V.int) ∨ SqL K H B (l.belts.map V.int)) (eS : fv kw "scans" (.ref tS) = .ref aS) (hS : Sq K H aS (l.scans.map V.int)) (eP : fv kw "slips" (.ref tP) = .ref aP) (hP : SqT K H aP [.int l.most, .int l.among])
    (eW : fv kw "words" (.ref tW) = .ref aW) (hW : Sq K H aW (l.words.map V.str)) (eT : fv kw "stretch" (optV st) = optV l.stretch)
    (k : ∀ (x : Addr) (H' : Hp) (ss : List Int), H x = none → Same H H' → ss.Perm l.scans → ss.Pairwise (· ≤ ·) → LnAt K C H' x { l with scans := ss } → Q (.ref x) H') : spChL K C cA cF [.ref a, .ref d] H Q E := by
  have n3 := ok.n3
  have sl := ok.sl
  have len : (l.belts.map V.int).length = l.belts.length := List.length_map _
  refine ⟨a, d, dx, t, tS, tW, .ref tP, optV st, kw, rfl, ha, hd, .inr ⟨hb, B, aS, aW, _, _, _, intD l.belts, intD l.scans, strD l.words, .tuple [.int l.most, .int l.among], optD l.stretch, eB, hB, eS, eW, dpI _, by rw [len]; omega, shI, hS, dpI _, shI, by rw [List.length_map]; exact Nat.le_trans sl (by decide), hW, dpS _, strD_sh, ?_, slips_sh, ?_, shO _, fun n d e => ?_, fun _ x dx t' tS tW ns H' hx sm hxf pm sr hT hS hW => ?_⟩⟩
  · rw [eP]; exact .tup hP (.cons (.int _) (.cons (.int _) .nil))
  · rw [eT]; exact dpO _
  · rw [len, lnErr_good ok] at e
    cases e
  · rw [map_dInt] at pm
    rw [eP, eT] at hxf
    exact k x H' ns hx sm pm sr ⟨⟨dx, t', tS, aP, tW, hxf, hT, hS, sqT_same hP sm, hW⟩, lnOk_perm ok pm⟩
theorem fv_nil {x : Str} {d : V} : fv [] x d = d := rfl
theorem fv_hit {x : Str} {v d : V} {l : List (Str × V)} : fv ((x, v) :: l) x d = v := by
  unfold fv kwV
  rw [List.map_cons, valV_pos rfl]
  rfl
theorem fv_miss {x y : Str} {v d : V} {l : List (Str × V)} (h : ¬ y = x) : fv ((y, v) :: l) x d = fv l x d := by
  unfold fv kwV
  rw [List.map_cons, valV_neg (fun z => h (Sum.inr.inj z))]
/-- a.changed(..) of good values; what isn't given stays -/
theorem ch_go {H : Hp} {a p : Addr} {kw : List (Str × V)} {l0 l : LnD} {Q : VK} {E : XK} (la : LnAt K C H a l0) (hp : H p = none) (hb : badKey kw fieldsL = none) (ok : LnOk l)
    (hB : (l.belts = l0.belts ∧ ∀ v, fv kw "belts" v = v) ∨ ∃ B, (∀ v, fv kw "belts" v = .ref B) ∧ (SqT K H B (l.belts.map V.int) ∨ SqL K H B (l.belts.map V.int)))
    (hS : (l.scans = l0.scans ∧ ∀ v, fv kw "scans" v = v) ∨ ∃ B, (∀ v, fv kw "scans" v = .ref B) ∧ Sq K H B (l.scans.map V.int))
    (hP : (l.most = l0.most ∧ l.among = l0.among ∧ ∀ v, fv kw "slips" v = v) ∨ ∃ B, (∀ v, fv kw "slips" v = .ref B) ∧ SqT K H B [.int l.most, .int l.among])
    (hW : (l.words = l0.words ∧ ∀ v, fv kw "words" v = v) ∨ ∃ B, (∀ v, fv kw "words" v = .ref B) ∧ Sq K H B (l.words.map V.str))
    (hT : (l.stretch = l0.stretch ∧ ∀ v, fv kw "stretch" v = v) ∨ ∀ v, fv kw "stretch" v = optV l.stretch)
    (k : ∀ (x : Addr) (H' : Hp) (ss : List Int), H x = none → Same H H' → ss.Perm l.scans → ss.Pairwise (· ≤ ·) → LnAt K C H' x { l with scans := ss } → Q (.ref x) H') : spChL K C cA cF [.ref a, .ref p] (upd H p (.dK (kwV kw))) Q E := by
  have sm : Same H (upd H p (.dK (kwV kw))) := (Same.refl _).new hp
  obtain ⟨⟨dx, t, tS, tP, tW, ha, hT0, hS0, hP0, hW0⟩, _⟩ := la
  obtain ⟨B, eB, sB⟩ : ∃ B, fv kw "belts" (.ref t) = .ref B ∧ (SqT K (upd H p (.dK (kwV kw))) B (l.belts.map V.int) ∨ SqL K (upd H p (.dK (kwV kw))) B (l.belts.map V.int)) := by
    rcases hB with ⟨e, f⟩ | ⟨B, f, h | h⟩
    · exact ⟨t, f _, .inl (by rw [e]; exact sqT_same hT0 sm)⟩
    · exact ⟨B, f _, .inl (sqT_same h sm)⟩
    · exact ⟨B, f _, .inr (seqs_l (Seqs.of sm) h)⟩
  obtain ⟨aS, eS, sS⟩ : ∃ B, fv kw "scans" (.ref tS) = .ref B ∧ Sq K (upd H p (.dK (kwV kw))) B (l.scans.map V.int) := by
    rcases hS with ⟨e, f⟩ | ⟨B, f, h⟩
    · exact ⟨tS, f _, .inr (by rw [e]; exact sqT_same hS0 sm)⟩
    · exact ⟨B, f _, sq_seqs (Seqs.of sm) h⟩
  obtain ⟨aP, eP, sP⟩ : ∃ B, fv kw "slips" (.ref tP) = .ref B ∧ SqT K (upd H p (.dK (kwV kw))) B [.int l.most, .int l.among] := by
    rcases hP with ⟨e, e2, f⟩ | ⟨B, f, h⟩
    · exact ⟨tP, f _, by rw [e, e2]; exact sqT_same hP0 sm⟩
    · exact ⟨B, f _, sqT_same h sm⟩
  obtain ⟨aW, eW, sW⟩ : ∃ B, fv kw "words" (.ref tW) = .ref B ∧ Sq K (upd H p (.dK (kwV kw))) B (l.words.map V.str) := by
    rcases hW with ⟨e, f⟩ | ⟨B, f, h⟩
    · exact ⟨tW, f _, .inr (by rw [e]; exact sqT_same hW0 sm)⟩
    · exact ⟨B, f _, sq_seqs (Seqs.of sm) h⟩
  have eT : fv kw "stretch" (optV l0.stretch) = optV l.stretch := by
    rcases hT with ⟨e, f⟩ | f
    · rw [f, e]
    · exact f _
  exact ch_make (sm _ _ ha) upd_same hb ok eB sB eS sS eP sP eW sW eT fun x H' ss nx s2 pm sr la' => k x H' ss (sm.free nx) (sm.trans s2) pm sr la'
end
end Own

namespace Own
open PySem L2 ClX PySem.HandSPX
abbrev sAl : Stmt := topT 42
abbrev NAl : List Str := ["_law_made", "_law_plan", "_law_points", "_law_alone", "_law_one", "_law_room"]
theorem eqLn_ne {l r : LnD} (h : l ≠ r) : eqLn l r = false := by
  cases q : eqLn l r with
  | false => rfl
  | true =>
    exfalso
    unfold eqLn at q
    simp only [Bool.and_eq_true, decide_eq_true_eq] at q
    obtain ⟨q1, q2, q3, q4, q5⟩ := q
    injection q3 with q6 q7
    injection q7 with q7 _
    apply h
    cases l; cases r
    simp_all
theorem dLI {K : PySem.W.Frag} {H : Hp} {a : Addr} {ns : List Int} (h : H a = some (.lst (ns.map V.int))) : Dp K H (.ref a) (.list (intD ns)) := .lst (SqL.of h) (dpI ns)
theorem dLS {K : PySem.W.Frag} {H : Hp} {a : Addr} {ns : List Str} (h : H a = some (.lst (ns.map V.str))) : Dp K H (.ref a) (.list (strD ns)) := .lst (SqL.of h) (dpS ns)
theorem dT2 {K : PySem.W.Frag} {H : Hp} {a : Addr} {x y : Int} (h : SqT K H a [.int x, .int y]) : Dp K H (.ref a) (.tuple (intD [x, y])) := .tup h (.cons (.int _) (.cons (.int _) .nil))
theorem ne_nilS {ns : List Str} : (!PyData.eqv (.list (strD ns)) (.list [])) = !ns.isEmpty := by
  cases ns with
  | nil => simp [strD, PyData.eqv, PyData.eqvAll]
  | cons n r => simp [strD, PyData.eqv, PyData.eqvAll]
theorem PlanOk.line {m w : Nat} {pl : Plan} (h : PlanOk m w pl) (hm : m ≤ 3 := by decide) (hw : w ≤ 3 := by decide) : LnOk (pl.line pl.scans) where
  n1 := h.n1
  n3 := Nat.le_trans h.n2 hm
  bl := fun x hx => by have := h.bl x hx; omega
  sn := h.sc.imp fun q e => by omega
  sr := h.sr
  m0 := h.m0
  m3 := by have := h.m1; show pl.most ≤ 3; omega
  a1 := h.a0
  a6 := by have := h.a1; show pl.among ≤ 6; omega
  ws := h.ws
  st := by
    rcases h.st with e | ⟨k, e, h1, h2⟩
    · exact .inl e
    · exact .inr ⟨k, e, h1, by omega⟩
theorem badKey_1 {x : Str} {v : V} (h : wordB (.str x) fieldsL = true) : badKey [(x, v)] fieldsL = none := badKey_none fun j q hq => match j, hq with
  | 0, hq => by obtain rfl := Option.some.inj hq; exact h
  | _ + 1, hq => by cases hq
theorem badKey_2 {x y : Str} {v u : V} (h : wordB (.str x) fieldsL = true) (h2 : wordB (.str y) fieldsL = true) : badKey [(x, v), (y, u)] fieldsL = none := badKey_none fun j q hq => match j, hq with
  | 0, hq => by obtain rfl := Option.some.inj hq; exact h
  | 1, hq => by obtain rfl := Option.some.inj hq; exact h2
  | _ + 2, hq => by cases hq
/-- a if t else b, whatever it is, as long as R holds of it -/
theorem ifE {c : Bool} {ta tb : TE} {σ : L2.St} {H : Hp} {Q : VK} (R : V → Hp → Prop) (ha : c = true → ∀ Q : VK, (∀ v H', R v H' → Q v H') → ta σ H Q) (hb : c = false → ∀ Q : VK, (∀ v H', R v H' → Q v H') → tb σ H Q) (k : ∀ v H', R v H' → Q v H') : if c = true then ta σ H Q else tb σ H Q := by
  cases c with
  | true => exact iteT (ha rfl Q k)
  | false => exact iteF (hb rfl Q k)
theorem isE {α : Type} {l : List α} (h : l.isEmpty = true) : l = [] := List.isEmpty_iff.mp h
def turnB (bs : List Int) : List Int := bs.map fun x => 1 + x % 3
/-- a line unlike l0 stands at z -/
def UnL (K : PySem.W.Frag) (C : Addr) (H : Hp) (l0 : LnD) (z : Addr) : Prop := ∃ l, LnAt K C H z l ∧ l ≠ l0
theorem UnL.same {K : PySem.W.Frag} {C : Addr} {H H' : Hp} {l0 : LnD} {z : Addr} (h : UnL K C H l0 z) (s : Same H H') : UnL K C H' l0 z := by
  obtain ⟨l, h1, h2⟩ := h
  exact ⟨l, h1.same s, h2⟩
theorem lnAt_upd {K : PySem.W.Frag} {C : Addr} {H : Hp} {x l : Addr} {ln : LnD} {ys : List V} {o : HO} (h : LnAt K C H x ln) (hl : H l = some (.lst ys)) : LnAt K C (upd H l o) x ln := by
  have sq : ∀ {a : Addr} {xs : List V}, SqT K H a xs → SqT K (upd H l o) a xs := fun {a xs} h => by
    rcases h with (h | ⟨ob, h⟩) | h
    · exact .inl (.inl (by rw [upd_ne (L2.ne_of h hl (fun z => nomatch z))]; exact h))
    · exact .inl (.inr ⟨ob, by rw [upd_ne (L2.ne_of h hl (fun z => nomatch z))]; exact h⟩)
    · exact .inr h
  obtain ⟨⟨dx, t, tS, tP, tW, h1, h2, h3, h4, h5⟩, ok⟩ := h
  exact ⟨⟨dx, t, tS, tP, tW, by rw [upd_ne (L2.ne_of h1 hl (fun z => nomatch z))]; exact h1, sq h2, sq h3, sq h4, sq h5⟩, ok⟩
theorem UnL.updA {K : PySem.W.Frag} {C : Addr} {H : Hp} {l0 : LnD} {z l : Addr} {ys : List V} {o : HO} (h : UnL K C H l0 z) (hl : H l = some (.lst ys)) : UnL K C (L2.upd H l o) l0 z := by
  obtain ⟨l', h1, h2⟩ := h
  exact ⟨l', lnAt_upd h1 hl, h2⟩
/-- the points between -/
def ptsB (n : Nat) : List Int := (List.range (n - 1)).map fun (i : Nat) => (1 + (i : Int))
theorem rgV_map {n : Nat} (h : 1 ≤ n) : rgV 1 (n : Int) = (ptsB n).map V.int := by
  unfold rgV ptsB
  rw [List.map_map, show ((n : Int) - 1).toNat = n - 1 by omega]
  rfl
theorem ptsB_mem {n : Nat} {x : Int} (h : x ∈ ptsB n) : 1 ≤ x ∧ x < n := by
  unfold ptsB at h
  obtain ⟨i, hi, rfl⟩ := List.mem_map.mp h
  have := List.mem_range.mp hi
  omega
theorem ptsB_nd {n : Nat} : (ptsB n).Nodup := by
  unfold ptsB List.Nodup
  rw [List.pairwise_map]
  exact List.nodup_range.imp fun h e => h (by omega)
theorem ptsB_len {n : Nat} : (ptsB n).length = n - 1 := by
  unfold ptsB
  rw [List.length_map, List.length_range]
def spAl (K : PySem.W.Frag) (C : Addr) : Sp := fun vs H Q _ => ∃ x D b s t wd r pl, vs = [.ref x, .ref D] ∧ PlanH H D b s t wd r pl ∧ PlanOk 3 3 pl ∧ LnAt K C H x (pl.line pl.scans) ∧ ∀ H', Same H H' → Q (.bl true) H'
section
variable {P : Program} {w : World} {K : PySem.W.Frag} {mg : Str → Option Value} {base : Heap}
theorem scAl : FnScope NAl ["_law_made", "_law_plan"] (defScope sAl) := ⟨rfl, rfl, rfl, by decide +kernel, rfl, by decide +kernel, by decide +kernel⟩
theorem ok_al {f fI fC fE C a0 a1 a2 cF : Addr} {cA : Nat → Addr} {fd gE : FuncData} (F : Fun K "_law_alone_so" "_law_alone_so" sAl f fd) (Ic : LnCh K fC) (ch : ChF P w K mg base fI C a0 a1 a2 cA cF) (cM : Meth K C "changed" fC) (TC : TyC K C)
    (eAt : PySem.W.findIn K (.ref C) "__eq__" = some (some (.ref fE))) (eFn : PySem.W.isFn K (.ref fE) = true) (GEq : FnOk P w K mg base CX0 2 fE gE ["self", "other"] (spLEq K C)) (bEq : Binds K gE ["self", "other"] []) (nfC : PySem.W.notFirst K C (.ref C) = true)
    (z_len : mg "len" = none) (z_list : mg "list" = none) (z_range : mg "range" = none) (z_int : mg "int" = none) (z_any : mg "any" = none) : FnOk P w K mg base CX0 12 f fd ["_law_made", "_law_plan"] (spAl K C) := by
  refine F.ok scAl (fun vs H Q E h => ?_) (fun cdv A outer s H vs Q E hr h => ?_)
  · obtain ⟨x, D, b, sa, t, wd, r, pl, rfl, _⟩ := h
    rfl
  · obtain ⟨x, D, b, sa, t, wd, r, pl, rfl, ph, ok, la, k⟩ := h
    have T := ch.T
    have nd := scAl.nd
    have hu : (A.deeper (PyProof.Rows.envOfC "_law_alone_so" (defScope sAl) s.heap.objs.size f cdv)).units + 1 < cLine := by have := hr.units; omega
    have hr10 := hr.mono (j := 10) (by decide)
    have hr2 := hr.mono (j := 2) (by decide)
    refine ⟨_, PSs.nox (pss_cons (ps_set (i := 2) nd rfl (Or.inl rfl) (pe_listRg rfl (by rfl) z_list (prg_2 (by rfl) z_range pe_int (pe_callB call_len_seq (by rfl) z_len PySem.boot_len (pa_cons (pe_dget hu (pv 1) pe_str (fun _ _ => rfl)) pa_nil)))))
      (pss_cons (ps_set (i := 3) nd rfl (Or.inl rfl) (pe_lst (pa_cons (pe_methKw T.cl cM (ch_belts Ic ch) hr10 Ic.kp passF (pv 0) (pk_cons (pe_lc (own := [("_law_room", 5)]) (g := (gName 5)) (tt := tYes) rfl nd (pi_list (pe_dget hu (pv 1) pe_str (fun _ _ => rfl))) (blkOk_by (N := NAl) (sc := defScope sAl) (by decide +kernel)) (fun _ _ _ _ _ => pg_name (i := 5) nd rfl (Or.inl rfl)) (fun _ _ _ _ _ => pts_nil) (fun _ _ _ _ _ => pe_op op_add pe_int (pe_op op_mod (pe_callTy call_int1 (by rfl) z_int (by decide +kernel) (pa_cons (pv 5) pa_nil)) pe_int))) pk_nil)) (pa_cons (pe_methKw T.cl cM (ch_stretch Ic ch) hr10 Ic.kp passF (pv 0) (pk_cons pe_int pk_nil)) (pa_cons (pe_methKw T.cl cM (ch_words Ic ch) hr10 Ic.kp passF (pv 0) (pk_cons (pe_ifExp (pt_cmpR (op_neD hr.units) (pe_dget hu (pv 1) pe_str (fun _ _ => rfl)) (pe_lst pa_nil) (nomark _)) (pe_lst pa_nil) (pe_lst (pa_cons pe_str pa_nil))) pk_nil)) (pa_cons (pe_methKw T.cl cM (ch_slips Ic ch) hr10 Ic.kp passF (pv 0) (pk_cons (pe_ifExp (pt_cmpR (op_neD hr.units) (pe_dget hu (pv 1) pe_str (fun _ _ => rfl)) (pe_tup (pa_cons pe_int (pa_cons pe_int pa_nil))) (nomark _)) (pe_tup (pa_cons pe_int (pa_cons pe_int pa_nil))) (pe_tup (pa_cons pe_int (pa_cons pe_int pa_nil)))) pk_nil)) pa_nil))))))
      (Evl.pss_cut (ps_if (pt_cmpR (op_neD hr.units) (pv 2) (pe_lst pa_nil) (nomark _)) (pss_one (ps_expr (pe_bm PySem.F.plainAttrs_list PySem.F.slot_list_append PySem.F.type_list_append mt_append (pv 3) (pa_cons (pe_methKw T.cl cM (ch_scans Ic ch) hr10 Ic.kp passF (pv 0) (pk_cons (pe_ifExp (pt_cmpR (op_neD hr.units) (pe_dget hu (pv 1) pe_str (fun _ _ => rfl)) (pe_lst pa_nil) (nomark _)) (pe_lst pa_nil) (pv 2)) pk_nil)) pa_nil)))) pss_nil)
      (pss_one (ps_ret (pe_not (pe_callB (cr_any rfl) (by rfl) z_any (by decide +kernel) (pa_cons (pe_lc (own := [("_law_one", 4)]) (g := (gName 4)) (tt := tYes) rfl nd (pi_list (pv 3)) (blkOk_by (N := NAl) (sc := defScope sAl) (by decide +kernel)) (fun _ _ _ _ _ => pg_name (i := 4) nd rfl (Or.inl rfl)) (fun _ _ _ _ _ => pts_nil) (fun _ _ _ _ _ => pe_or (pe_cmpR (r := rOwn K C (spLEq K C)) (op_own GEq hr2 eAt eFn bEq pass0) (pv 4) (pv 0) (nomark _)) (pe_one (pe_cmpR (r := rOwn K C (spLEq K C)) (op_own GEq hr2 eAt eFn bEq pass0) (pv 0) (pv 4) (nomark _))))) pa_nil)))))))), ?_⟩
    have lok := ok.line
    have n1 : 1 ≤ pl.belts.length := lok.n1
    have n3 : pl.belts.length ≤ 3 := lok.n3
    have sl := lok.sl
    have wl : pl.words.length ≤ 3 := ok.ws.length_le
    refine ⟨_, rfl, D, _, rfl, dget_some ph.dk (planK_b ..), b, _, rfl, .inl (SqL.of ph.hb), 1, _, rfl, rfl, ?_⟩
    rw [List.length_map]
    refine ⟨RgOk.of_le (by decide) (by omega) (by decide) (by omega), fun P0 nP => ?_⟩
    rw [rgV_map n1]
    have s1 : Same H (upd H P0 (.lst ((ptsB pl.belts.length).map V.int))) := (Same.refl _).new nP
    have e1 : upd H P0 (.lst ((ptsB pl.belts.length).map V.int)) P0 = some (.lst ((ptsB pl.belts.length).map V.int)) := upd_same
    show tSeq _ _ _ _ (upd H P0 (.lst ((ptsB pl.belts.length).map V.int)))
    generalize upd H P0 (.lst ((ptsB pl.belts.length).map V.int)) = H1 at s1 e1
    have ph1 := ph.keep s1
    have la1 := la.same s1
    -- 1: belts
    have ins : ∀ {G : Hp}, Same H1 G → ∃ dx fs, G x = some (.ins C dx fs) ∧ fs.lookup ("changed" : Str) = none := fun {G} sm => by
      obtain ⟨⟨dx, t1, tS, tP, tW, hx, _⟩, _⟩ := la1.same sm
      exact ⟨dx, _, hx, rfl⟩
    obtain ⟨dx1, fs1, hx1, hf1⟩ := ins (Same.refl H1)
    refine ⟨_, rfl, x, dx1, fs1, rfl, hx1, hf1, _, rfl, D, _, rfl, dget_some ph1.dk (planK_b ..), b, rfl, ⟨_, SqL.of ph1.hb⟩, fun D1 nD1 => lc_map ((turnB pl.belts).map V.int) (by unfold turnB; rw [List.length_map, List.length_map, List.length_map]) (by unfold turnB; rw [List.length_map, List.length_map]; exact Nat.lt_of_le_of_lt n3 (by decide)) (SqL.of ph1.hb) nD1 ?_ ?_ gName_mono⟩
    · intro i x' y H' R hi hy sm k2
      obtain ⟨u, hu2, rfl⟩ := ints_get hi
      have ey : y = .int (1 + u % 3) := by
        unfold turnB at hy
        rw [List.getElem?_map, List.getElem?_map, hu2] at hy
        exact (Option.some.inj hy).symm
      subst ey
      exact ⟨rfl, _, rfl, .inl ⟨_, rfl, _, _, rfl, rfl, by show (0 : Int) < 3; decide, _, _, rfl, rfl, k2 H' (Same.refl _)⟩⟩
    · intro H2 s2 eD1
      refine ⟨rfl, fun p1 np1 => ch_go (kw := [("belts", .ref D1)]) (l := { pl.line pl.scans with belts := turnB pl.belts }) (la1.same s2) np1 (badKey_1 (by decide +kernel)) ?_ (.inr ⟨D1, fun _ => fv_hit, .inr (SqL.of eD1)⟩) (.inl ⟨rfl, fun _ => fv_miss (by decide +kernel)⟩) (.inl ⟨rfl, rfl, fun _ => fv_miss (by decide +kernel)⟩) (.inl ⟨rfl, fun _ => fv_miss (by decide +kernel)⟩) (.inl ⟨rfl, fun _ => fv_miss (by decide +kernel)⟩) fun x1 H3 ss1 _ s3 pm1 _ lb1 => ?_⟩
      · have tl : (turnB pl.belts).length = pl.belts.length := by unfold turnB; rw [List.length_map]
        exact ⟨by show 1 ≤ (turnB pl.belts).length; omega, by show (turnB pl.belts).length ≤ 3; omega, fun y hy => by
          obtain ⟨z, hz, rfl⟩ := List.mem_map.mp hy
          omega, lok.sn, fun y hy => by
          have := lok.sr y hy
          show 1 ≤ y ∧ y < ((turnB pl.belts).length : Int)
          rw [tl]; exact this, lok.m0, lok.m3, lok.a1, lok.a6, lok.ws, lok.st⟩
      have u1 : UnL K C H3 (pl.line pl.scans) x1 := ⟨_, lb1, fun e => by
        have e : turnB pl.belts = pl.belts := congrArg LnD.belts e
        match eb : pl.belts, n1 with
        | y :: r, _ =>
          rw [eb] at e
          have z := (List.cons.inj (show (1 + y % 3) :: turnB r = y :: r from e)).1
          have := ok.bl y (by rw [eb]; exact List.mem_cons_self ..)
          omega⟩
      have S3 := s2.trans s3
      -- 2: stretch
      obtain ⟨dx2, fs2, hx2, hf2⟩ := ins S3
      refine ⟨_, rfl, x, dx2, fs2, rfl, hx2, hf2, rfl, fun p2 np2 => ch_go (kw := [("stretch", .int 5)]) (l := { pl.line pl.scans with stretch := some 5 }) (la1.same S3) np2 (by decide +kernel) ⟨lok.n1, lok.n3, lok.bl, lok.sn, lok.sr, lok.m0, lok.m3, lok.a1, lok.a6, lok.ws, .inr ⟨5, rfl, by decide, by decide⟩⟩ (.inl ⟨rfl, fun _ => fv_miss (by decide +kernel)⟩) (.inl ⟨rfl, fun _ => fv_miss (by decide +kernel)⟩) (.inl ⟨rfl, rfl, fun _ => fv_miss (by decide +kernel)⟩) (.inl ⟨rfl, fun _ => fv_miss (by decide +kernel)⟩) (.inr fun _ => fv_hit) fun x2 H4 ss2 _ s4 pm2 _ lb2 => ?_⟩
      have u2 : UnL K C H4 (pl.line pl.scans) x2 := ⟨_, lb2, fun e => by
        have e : some 5 = pl.stretch := congrArg LnD.stretch e
        rcases ok.st with h | ⟨z, h, h1, h2⟩
        · rw [h] at e; cases e
        · rw [h] at e
          have := Option.some.inj e
          omega⟩
      have S4 := S3.trans s4
      have ph4 := ph1.keep S4
      -- 3: words
      obtain ⟨dx3, fs3, hx3, hf3⟩ := ins S4
      refine ⟨_, rfl, x, dx3, fs3, rfl, hx3, hf3, _, rfl, D, _, rfl, dget_some ph4.dk (planK_w ..), by show 0 ≤ sizeLine; decide, fun l3 nl3 => ?_⟩
      have t3 : Same H4 (upd H4 l3 (.lst [])) := (Same.refl _).new nl3
      refine ⟨_, .list [], dLS (t3 _ _ ph4.hw), .lst (SqL.of upd_same) .nil, shpLS (by omega) (slip_ok ok.ws), by decide +kernel, _, rfl, ?_⟩
      rw [ne_nilS]
      refine ifE (fun v G => ∃ (q : Addr) (ws : List Str), v = .ref q ∧ Same H4 G ∧ G q = some (.lst (ws.map V.str)) ∧ ws.Sublist slipW ∧ ws ≠ pl.words) (fun hc Q0 kQ => ⟨by show 0 ≤ sizeLine; decide, fun q nq => kQ _ _ ⟨q, [], rfl, t3.new nq, upd_same, List.nil_sublist _, fun e => by rw [← e] at hc; cases hc⟩⟩)
        (fun hc Q0 kQ => ⟨by show 1 ≤ sizeLine; decide, fun q nq => kQ _ _ ⟨q, ["missed"], rfl, t3.new nq, upd_same, by unfold slipW; exact (List.Sublist.cons_cons _ (List.nil_sublist _)), fun e => by rw [← e] at hc; cases hc⟩⟩) ?_
      rintro v G4 ⟨q3, ws3, rfl, sG4, eq3, sub3, ne3⟩
      refine ⟨rfl, fun p3 np3 => ch_go (kw := [("words", .ref q3)]) (l := { pl.line pl.scans with words := ws3 }) (la1.same (S4.trans sG4)) np3 (badKey_1 (by decide +kernel)) ⟨lok.n1, lok.n3, lok.bl, lok.sn, lok.sr, lok.m0, lok.m3, lok.a1, lok.a6, sub3, lok.st⟩ (.inl ⟨rfl, fun _ => fv_miss (by decide +kernel)⟩) (.inl ⟨rfl, fun _ => fv_miss (by decide +kernel)⟩) (.inl ⟨rfl, rfl, fun _ => fv_miss (by decide +kernel)⟩) (.inr ⟨q3, fun _ => fv_hit, .inl (SqL.of eq3)⟩) (.inl ⟨rfl, fun _ => fv_miss (by decide +kernel)⟩) fun x3 H5 ss3 _ s5 _ _ lb3 => ?_⟩
      have u3 : UnL K C H5 (pl.line pl.scans) x3 := ⟨_, lb3, fun e => ne3 (congrArg LnD.words e)⟩
      have S5 := (S4.trans sG4).trans s5
      have ph5 := ph1.keep S5
      have u1 := u1.same (s4.trans (sG4.trans s5))
      have u2 := u2.same (sG4.trans s5)
      clear t3 nl3 hx3 hx2 hx1 eD1 lb1 lb2 lb3 eq3 ph4
      -- 4: slips
      obtain ⟨dx4, fs4, hx4, hf4⟩ := ins S5
      refine ⟨_, rfl, x, dx4, fs4, rfl, hx4, hf4, _, rfl, D, _, rfl, dget_some ph5.dk (planK_t ..), by show 2 ≤ sizeLine; decide, fun l4 nl4 => ?_⟩
      have t4 : Same H5 (upd H5 l4 (.tup [.int 3, .int 6])) := (Same.refl _).new nl4
      refine ⟨.tuple (intD [pl.most, pl.among]), .tuple (intD [3, 6]), dT2 (SqT.of (t4 _ _ ph5.ht)), dT2 (SqT.of upd_same), shpTI (by show 2 ≤ 1000; decide), shpTI (by show 2 ≤ 1000; decide), _, rfl, ?_⟩
      rw [eqTI]
      refine ifE (fun v G => ∃ (q : Addr) (m a : Int), v = .ref q ∧ Same H5 G ∧ G q = some (.tup [.int m, .int a]) ∧ 0 ≤ m ∧ m ≤ 3 ∧ 1 ≤ a ∧ a ≤ 6 ∧ ¬ (m = pl.most ∧ a = pl.among)) (fun hc Q0 kQ => ⟨by show 2 ≤ sizeLine; decide, fun q nq => kQ _ _ ⟨q, 3, 6, rfl, t4.new nq, upd_same, by decide, by decide, by decide, by decide, fun e => by
          rw [← e.1, ← e.2] at hc
          simp at hc⟩⟩)
        (fun hc Q0 kQ => ⟨by show 2 ≤ sizeLine; decide, fun q nq => kQ _ _ ⟨q, 0, 1, rfl, t4.new nq, upd_same, by decide, by decide, by decide, by decide, fun e => by
          rw [← e.1, ← e.2] at hc
          simp at hc⟩⟩) ?_
      rintro v G5 ⟨q4, m4, a4, rfl, sG5, eq4, m40, m43, a41, a46, ne4⟩
      refine ⟨rfl, fun p4 np4 => ch_go (kw := [("slips", .ref q4)]) (l := { pl.line pl.scans with most := m4, among := a4 }) (la1.same (S5.trans sG5)) np4 (badKey_1 (by decide +kernel)) ⟨lok.n1, lok.n3, lok.bl, lok.sn, lok.sr, m40, m43, a41, a46, lok.ws, lok.st⟩ (.inl ⟨rfl, fun _ => fv_miss (by decide +kernel)⟩) (.inl ⟨rfl, fun _ => fv_miss (by decide +kernel)⟩) (.inr ⟨q4, fun _ => fv_hit, SqT.of eq4⟩) (.inl ⟨rfl, fun _ => fv_miss (by decide +kernel)⟩) (.inl ⟨rfl, fun _ => fv_miss (by decide +kernel)⟩) fun x4 H6 ss4 _ s6 _ _ lb4 => ?_⟩
      have u4 : UnL K C H6 (pl.line pl.scans) x4 := ⟨_, lb4, fun e => ne4 ⟨congrArg LnD.most e, congrArg LnD.among e⟩⟩
      have S6 := (S5.trans sG5).trans s6
      have ph6 := ph1.keep S6
      have u1 := u1.same (sG5.trans s6)
      have u2 := u2.same (sG5.trans s6)
      have u3 := u3.same (sG5.trans s6)
      clear t4 nl4 hx4 eq4 lb4 ph5
      refine ⟨by show 4 ≤ sizeLine; decide, fun A0 nA => ?_⟩
      have s7 : Same H6 (upd H6 A0 (.lst ([x1, x2, x3, x4].map V.ref))) := (Same.refl _).new nA
      have eA : upd H6 A0 (.lst ([x1, x2, x3, x4].map V.ref)) A0 = some (.lst ([x1, x2, x3, x4].map V.ref)) := upd_same
      show L2.tSeq _ _ _ _ (upd H6 A0 (.lst ([x1, x2, x3, x4].map V.ref)))
      have nAH : H1 A0 = none := S6.free nA
      generalize upd H6 A0 (.lst ([x1, x2, x3, x4].map V.ref)) = H7 at s7 eA
      have S7 := S6.trans s7
      have e7 := S7 _ _ e1
      have nA0P : A0 ≠ P0 := (L2.ne_of_none e1 nAH).symm
      have all7 : ∀ z ∈ [x1, x2, x3, x4], UnL K C H7 (pl.line pl.scans) z := fun z hz => by
        simp only [List.mem_cons, List.not_mem_nil, or_false] at hz
        rcases hz with rfl | rfl | rfl | rfl
        · exact u1.same s7
        · exact u2.same s7
        · exact u3.same s7
        · exact u4.same s7
      clear u1 u2 u3 u4 ph6
      refine ⟨fun σ' H' => σ' = [some (.ref x), some (.ref D), some (.ref P0), some (.ref A0), none, none] ∧ Same H1 H' ∧ ∃ zs : List Addr, H' A0 = some (.lst (zs.map V.ref)) ∧ zs.length ≤ 5 ∧ ∀ z ∈ zs, UnL K C H' (pl.line pl.scans) z, ?_, ?_⟩
      · refine ⟨_, rfl, by show 0 ≤ sizeLine; decide, fun l8 nl8 => ?_⟩
        have s8 : Same H7 (upd H7 l8 (.lst [])) := (Same.refl _).new nl8
        refine ⟨_, .list [], dLI (s8 _ _ e7), .lst (SqL.of upd_same) .nil, shpLI (by rw [ptsB_len]; omega), by decide +kernel, _, rfl, ?_⟩
        rw [ne_nilI]
        have S8 := S7.trans s8
        have eA8 := s8 _ _ eA
        have all8 : ∀ z ∈ [x1, x2, x3, x4], UnL K C (upd H7 l8 (.lst [])) (pl.line pl.scans) z := fun z hz => (all7 z hz).same s8
        have e8 := s8 _ _ e7
        generalize upd H7 l8 (.lst []) = H8 at s8 S8 eA8 all8 e8
        cases hp : (ptsB pl.belts.length).isEmpty with
        | true => exact iteF ⟨rfl, S8, _, eA8, by show 4 ≤ 5; decide, all8⟩
        | false =>
          refine iteT ?_
          have ph8 := ph1.keep S8
          refine ⟨_, rfl, .inl ⟨rfl, _, SqL.of eA8⟩, ?_⟩
          obtain ⟨dx9, fs9, hx9, hf9⟩ := ins S8
          refine ⟨_, rfl, x, dx9, fs9, rfl, hx9, hf9, _, rfl, D, _, rfl, dget_some ph8.dk (planK_s ..), by show 0 ≤ sizeLine; decide, fun l9 nl9 => ?_⟩
          have t9 : Same H8 (upd H8 l9 (.lst [])) := (Same.refl _).new nl9
          refine ⟨_, .list [], dLI (t9 _ _ ph8.hs), .lst (SqL.of upd_same) .nil, shpLI (Nat.le_trans sl (by decide)), by decide +kernel, _, rfl, ?_⟩
          rw [ne_nilI]
          refine ifE (fun v G => ∃ (q : Addr) (ss : List Int), v = .ref q ∧ Same H8 G ∧ G q = some (.lst (ss.map V.int)) ∧ ss.Nodup ∧ (∀ y ∈ ss, 1 ≤ y ∧ y < (pl.belts.length : Int)) ∧ (ss = [] → pl.scans ≠ []) ∧ (ss ≠ [] → pl.scans = [])) (fun hc Q0 kQ => ⟨by show 0 ≤ sizeLine; decide, fun q nq => kQ _ _ ⟨q, [], rfl, t9.new nq, upd_same, .nil, (fun y hy => nomatch hy), (fun _ e => by rw [e] at hc; cases hc), fun e => absurd rfl e⟩⟩)
            (fun hc Q0 kQ => ⟨_, rfl, kQ _ _ ⟨P0, ptsB pl.belts.length, rfl, t9, t9 _ _ e8, ptsB_nd, fun y hy => ptsB_mem hy, (fun e => by rw [e] at hp; cases hp), fun _ => isE (by simpa using hc)⟩⟩) ?_
          rintro v G9 ⟨q9, ss9, rfl, sG9, eq9, nd9, rg9, em9, nm9⟩
          refine ⟨rfl, fun p9 np9 => ch_go (kw := [("scans", .ref q9)]) (l := { pl.line pl.scans with scans := ss9 }) (la1.same (S8.trans sG9)) np9 (badKey_1 (by decide +kernel)) ⟨lok.n1, lok.n3, lok.bl, nd9, rg9, lok.m0, lok.m3, lok.a1, lok.a6, lok.ws, lok.st⟩ (.inl ⟨rfl, fun _ => fv_miss (by decide +kernel)⟩) (.inr ⟨q9, fun _ => fv_hit, .inl (SqL.of eq9)⟩) (.inl ⟨rfl, rfl, fun _ => fv_miss (by decide +kernel)⟩) (.inl ⟨rfl, fun _ => fv_miss (by decide +kernel)⟩) (.inl ⟨rfl, fun _ => fv_miss (by decide +kernel)⟩) fun x5 H10 ss5 _ s10 pm5 _ lb5 => ?_⟩
          have S10 := sG9.trans s10
          have eA10 := S10 _ _ eA8
          refine ⟨A0, _, _, rfl, rfl, eA10, by show 4 < sizeLine; decide, rfl, ((S8.trans S10)).own nAH, [x1, x2, x3, x4] ++ [x5], by rw [upd_same, List.map_append]; rfl, by show 5 ≤ 5; decide, fun z hz => ?_⟩
          rcases List.mem_append.mp hz with hz | hz
          · exact ((all8 z hz).same S10).updA eA10
          · obtain rfl := List.mem_singleton.mp hz
            refine (show UnL K C H10 (pl.line pl.scans) z from ⟨_, lb5, fun e => ?_⟩).updA eA10
            have e : ss5 = pl.scans := congrArg LnD.scans e
            subst e
            by_cases h0 : ss9 = []
            · subst h0
              exact em9 rfl (List.Perm.eq_nil pm5)
            · have z0 := nm9 h0
              rw [z0] at pm5
              exact h0 (List.Perm.eq_nil pm5.symm)
      · rintro σ' H' ⟨rfl, sm, zs, eZ, lz, all⟩
        clear all7 e7 S7 s7 eA
        refine ⟨_, rfl, A0, rfl, ⟨_, SqL.of eZ⟩, fun D2 nD2 => lc_map ((List.replicate zs.length false).map V.bl) (by rw [List.length_map, List.length_map, List.length_replicate]) (by rw [List.length_map, List.length_replicate]; exact Nat.lt_of_le_of_lt lz (by decide)) (SqL.of eZ) nD2 ?_ ?_ gName_mono⟩
        · intro i x' y G R hi hy sG k2
          rw [List.getElem?_map] at hi
          obtain ⟨z, hz, rfl⟩ : ∃ z, zs[i]? = some z ∧ x' = V.ref z := by
            cases e : zs[i]? with
            | none => rw [e] at hi; cases hi
            | some z => rw [e] at hi; exact ⟨z, rfl, (Option.some.inj hi).symm⟩
          have ey : y = .bl false := by
            rw [List.getElem?_map] at hy
            cases e : (List.replicate zs.length false)[i]? with
            | none => rw [e] at hy; cases hy
            | some z =>
              rw [e] at hy
              have := List.eq_of_mem_replicate (List.mem_of_getElem? e)
              rw [this] at hy
              exact (Option.some.inj hy).symm
          subst ey
          obtain ⟨lz', laz, nez⟩ := (all z (List.mem_of_getElem? hz)).same sG
          have lax := la1.same (sm.trans sG)
          obtain ⟨⟨dxz, _, _, _, _, hxz, _⟩, _⟩ := id laz
          obtain ⟨⟨dxx, _, _, _, _, hxx, _⟩, _⟩ := id lax
          refine ⟨rfl, _, rfl, _, rfl, z, dxz, _, .ref C, rfl, hxz, .base (.ins hxx T.cl TC.ha TC.hn TC.htk TC.hm), nfC, z, _, .ref x, rfl, laz, .inl ⟨x, _, rfl, lax, ⟨_, rfl⟩, ?_⟩⟩
          rw [eqLn_ne nez]
          refine ⟨_, rfl, iteF ⟨_, rfl, _, rfl, x, dxx, _, .ref C, rfl, hxx, .base (.ins hxz T.cl TC.ha TC.hn TC.htk TC.hm), nfC, x, _, .ref z, rfl, lax, .inl ⟨z, _, rfl, laz, ⟨_, rfl⟩, ?_⟩⟩⟩
          rw [eqLn_ne (Ne.symm nez)]
          exact k2 G (Same.refl _)
        · intro G sG eD2
          refine ⟨D2, _, rfl, SqL.of eD2, false, ?_, k G (s1.trans (sm.trans sG))⟩
          have e : (List.replicate zs.length false).any id = false := by
            rw [List.any_eq_false]
            intro b hb
            rw [List.eq_of_mem_replicate hb]
            exact Bool.false_ne_true
          rw [e]
end
end Own

namespace Own
open PySem L2 ClX PySem.HandSPX LamX NdefX
abbrev sLaw : Stmt := topT 43
abbrev NLaw : List Str := ["_law_script", "_law_bag_here", "_law_turn", "_law_plan", "_law_other", "_law_made", "_law_many", "_law_rooms_z", "_law_points", "_law_k", "_law_found", "_law_rows", "_law_late", "_law_row", "_law_asks", "_law_due"]
structure DefF (P : Program) (w : World) (K : PySem.W.Frag) (mg : Str → Option Value) (base : Heap) (x : Str) (k : Nat) (ps : List Str) (sp : Sp) (f : Addr) (fd : FuncData) : Prop where
  G : FnOk P w K mg base CX0 k f fd ps sp
  m : mg x = some (.ref f)
  kp : PySem.W.keepIn K (.ref f) = true
  b : Binds K fd ps []
/-- a method of Line -/
structure MetF (P : Program) (w : World) (K : PySem.W.Frag) (mg : Str → Option Value) (base : Heap) (C : Addr) (x : Str) (k : Nat) (ps : List Str) (sp : Sp) (f : Addr) (fd : FuncData) : Prop where
  G : FnOk P w K mg base CX0 k f fd ps sp
  m : Meth K C x f
  b : Binds K fd ps []
structure PropF (P : Program) (w : World) (K : PySem.W.Frag) (mg : Str → Option Value) (base : Heap) (C : Addr) (x : Str) (p g : Addr) (sp : Sp) (fd : FuncData) : Prop where
  hp : PropOf K C x p g
  G : FnOk P w K mg base CX0 1 g fd ["self"] sp
  b : Binds K fd ["self"] []
structure SpcF (P : Program) (w : World) (K : PySem.W.Frag) (mg : Str → Option Value) (base : Heap) (C : Addr) (x : Str) (sp : Sp) (f : Addr) (fd : FuncData) : Prop where
  s : Spec1 K C f x
  G : FnOk P w K mg base CX0 1 f fd ["self"] sp
  b : Binds K fd ["self"] []
theorem BagC.ne_of {H : Hp} {p c a : Addr} {o : HO} (b : BagC H p c) (h : H a = some o) (n : ∀ cs i d m, o ≠ .lst [.ref cs, .int i, .int d, .int m] := by intros; simp) : a ≠ p := by
  obtain ⟨cs, i, d, m, h1, _⟩ := b
  exact L2.ne_of h h1 (n _ _ _ _)
theorem ints_bag {ns : List Int} {a : Addr} {i d m : Int} : (HO.lst (ns.map V.int)) ≠ .lst [.ref a, .int i, .int d, .int m] := fun z => by
  have z := HO.lst.inj z
  cases ns with
  | nil => cases z
  | cons n r => cases z
theorem strs_bag {ns : List Str} {a : Addr} {i d m : Int} : (HO.lst (ns.map V.str)) ≠ .lst [.ref a, .int i, .int d, .int m] := fun z => by
  have z := HO.lst.inj z
  cases ns with
  | nil => cases z
  | cons n r => cases z
theorem PlanH.but {H H' : Hp} {p c D b s t w r : Addr} {pl : Plan} (h : PlanH H D b s t w r pl) (bg : BagC H p c) (e : But p H H') : PlanH H' D b s t w r pl :=
  ⟨e _ _ (bg.ne_of h.dk (fun _ _ _ _ z => nomatch z)) h.dk, e _ _ (bg.ne_of h.hb (fun _ _ _ _ => ints_bag)) h.hb, e _ _ (bg.ne_of h.hs (fun _ _ _ _ => ints_bag)) h.hs, e _ _ (bg.ne_of h.ht (fun _ _ _ _ z => nomatch z)) h.ht, e _ _ (bg.ne_of h.hw (fun _ _ _ _ => strs_bag)) h.hw, e _ _ (bg.ne_of h.hr (fun _ _ _ _ => ints_bag)) h.hr⟩
theorem BagC.updD {H : Hp} {p c D : Addr} {o : HO} {kvs : List (Key × V)} (b : BagC H p c) (h : H D = some (.dK kvs)) : BagC (L2.upd H D o) p c := by
  obtain ⟨cs, i, d, m, h1, h2, h3⟩ := id b
  exact b.upd (L2.ne_of h h1 (fun z => nomatch z)) (L2.ne_of h h2 (fun z => nomatch z))
theorem tabs_ne {T : List (Addr × Str)} {H : Hp} {D : Addr} {o u : HO} (t : Tabs T H) (h : H D = some u) (n1 : ∀ ps, u ≠ .tbl ps) (n2 : ∀ φ, u ≠ .ext φ) : Tabs T (upd H D o) := fun q hq => by
  obtain ⟨ps, h1, h2, h3⟩ := t q hq
  refine ⟨ps, by rw [upd_ne (L2.ne_of h1 h (fun z => n1 _ z.symm))]; exact h1, h2, fun pos cv hc => ?_⟩
  obtain ⟨c0, e1, e2⟩ := h3 pos cv hc
  refine ⟨c0, e1, ?_⟩
  rw [upd_ne (L2.ne_of e2 h (fun z => ?_))]
  · exact e2
  · have z' : HO.ext _ = u := z
    exact n2 _ z'.symm
theorem tabs_dK {T : List (Addr × Str)} {H : Hp} {D : Addr} {o : HO} {kvs : List (Key × V)} (t : Tabs T H) (h : H D = some (.dK kvs)) : Tabs T (upd H D o) := tabs_ne t h (fun _ z => nomatch z) (fun _ z => nomatch z)
theorem tabs_lst {T : List (Addr × Str)} {H : Hp} {D : Addr} {o : HO} {xs : List V} (t : Tabs T H) (h : H D = some (.lst xs)) : Tabs T (upd H D o) := tabs_ne t h (fun _ z => nomatch z) (fun _ z => nomatch z)
theorem sqT_updK {K : PySem.W.Frag} {H : Hp} {a l : Addr} {xs : List V} {ys : List (Key × V)} {o : HO} (h : SqT K H a xs) (hl : H l = some (.dK ys)) : SqT K (upd H l o) a xs := by
  rcases h with (h | ⟨ob, h⟩) | h
  · exact .inl (.inl (by rw [upd_ne (L2.ne_of h hl (fun z => nomatch z))]; exact h))
  · exact .inl (.inr ⟨ob, by rw [upd_ne (L2.ne_of h hl (fun z => nomatch z))]; exact h⟩)
  · exact .inr h
theorem lnAt_updK {K : PySem.W.Frag} {C : Addr} {H : Hp} {x l : Addr} {ln : LnD} {ys : List (Key × V)} {o : HO} (h : LnAt K C H x ln) (hl : H l = some (.dK ys)) : LnAt K C (upd H l o) x ln := by
  obtain ⟨⟨dx, t, tS, tP, tW, h1, h2, h3, h4, h5⟩, ok⟩ := h
  exact ⟨⟨dx, t, tS, tP, tW, by rw [upd_ne (L2.ne_of h1 hl (fun z => nomatch z))]; exact h1, sqT_updK h2 hl, sqT_updK h3 hl, sqT_updK h4 hl, sqT_updK h5 hl⟩, ok⟩
theorem lnAt_but {K : PySem.W.Frag} {C : Addr} {H H' : Hp} {x p c : Addr} {ln : LnD} (h : LnAt K C H x ln) (bg : BagC H p c) (e : But p H H') : LnAt K C H' x ln := by
  have sq : ∀ {a : Addr} {xs : List V}, SqT K H a xs → SqT K H' a xs := fun {a xs} h => by
    rcases h with (h | ⟨ob, h⟩) | h
    · exact .inl (.inl (e _ _ (bg.ne_of h (fun _ _ _ _ z => nomatch z)) h))
    · exact .inl (.inr ⟨ob, e _ _ (bg.ne_of h (fun _ _ _ _ z => nomatch z)) h⟩)
    · exact .inr h
  obtain ⟨⟨dx, t, tS, tP, tW, h1, h2, h3, h4, h5⟩, ok⟩ := h
  exact ⟨⟨dx, t, tS, tP, tW, e _ _ (bg.ne_of h1 (fun _ _ _ _ z => nomatch z)) h1, sq h2, sq h3, sq h4, sq h5⟩, ok⟩
theorem lnAt_ext {K : PySem.W.Frag} {C : Addr} {H H' : Hp} {x : Addr} {ln : LnD} (h : LnAt K C H x ln) (e : ExtN H H') : LnAt K C H' x ln := by
  have sq : ∀ {a : Addr} {xs : List V}, SqT K H a xs → SqT K H' a xs := fun {a xs} h => by
    rcases h with (h | ⟨ob, h⟩) | h
    · exact .inl (.inl (e _ _ h (fun _ z => nomatch z)))
    · exact .inl (.inr ⟨ob, e _ _ h (fun _ z => nomatch z)⟩)
    · exact .inr h
  obtain ⟨⟨dx, t, tS, tP, tW, h1, h2, h3, h4, h5⟩, ok⟩ := h
  exact ⟨⟨dx, t, tS, tP, tW, e _ _ h1 (fun _ z => nomatch z), sq h2, sq h3, sq h4, sq h5⟩, ok⟩
theorem cut_ext {p : Addr} {H H' : Hp} (e : ExtN H H') : Seqs (cut p H) (cut p H') := extN_seqs e
theorem planH_updK {H : Hp} {D b s t w r Dz : Addr} {pl : Plan} {kvs : List (Key × V)} {o : HO} (h : PlanH H D b s t w r pl) (hz : H Dz = some (.dK kvs)) (n : Dz ≠ D) : PlanH (upd H Dz o) D b s t w r pl :=
  ⟨by rw [upd_ne (Ne.symm n)]; exact h.dk, by rw [upd_ne (L2.ne_of h.hb hz (fun z => nomatch z))]; exact h.hb, by rw [upd_ne (L2.ne_of h.hs hz (fun z => nomatch z))]; exact h.hs, by rw [upd_ne (L2.ne_of h.ht hz (fun z => nomatch z))]; exact h.ht, by rw [upd_ne (L2.ne_of h.hw hz (fun z => nomatch z))]; exact h.hw, by rw [upd_ne (L2.ne_of h.hr hz (fun z => nomatch z))]; exact h.hr⟩

theorem pk_belts {a b c d e f g h i j n' : V} : putK (planK a b c d e f g h i j) (Sum.inr ("belts" : Str) : Key) n' = planK n' b c d e f g h i j := by
  have e1 : ¬ ((Sum.inr ("scans" : Str) : Key) = Sum.inr ("belts" : Str)) := by decide +kernel
  have e2 : ¬ ((Sum.inr ("slips" : Str) : Key) = Sum.inr ("belts" : Str)) := by decide +kernel
  have e3 : ¬ ((Sum.inr ("words" : Str) : Key) = Sum.inr ("belts" : Str)) := by decide +kernel
  have e4 : ¬ ((Sum.inr ("stretch" : Str) : Key) = Sum.inr ("belts" : Str)) := by decide +kernel
  have e5 : ¬ ((Sum.inr ("rooms" : Str) : Key) = Sum.inr ("belts" : Str)) := by decide +kernel
  have e6 : ¬ ((Sum.inr ("seek" : Str) : Key) = Sum.inr ("belts" : Str)) := by decide +kernel
  have e7 : ¬ ((Sum.inr ("empty" : Str) : Key) = Sum.inr ("belts" : Str)) := by decide +kernel
  have e8 : ¬ ((Sum.inr ("strange" : Str) : Key) = Sum.inr ("belts" : Str)) := by decide +kernel
  have e9 : ¬ ((Sum.inr ("pause" : Str) : Key) = Sum.inr ("belts" : Str)) := by decide +kernel
  unfold putK
  rw [valV_any, planK_b]
  unfold planK
  simp only [Option.isSome_some, if_true, List.map_cons, List.map_nil, if_neg e1, if_neg e2, if_neg e3, if_neg e4, if_neg e5, if_neg e6, if_neg e7, if_neg e8, if_neg e9]
theorem pk_scans {a b c d e f g h i j n' : V} : putK (planK a b c d e f g h i j) (Sum.inr ("scans" : Str) : Key) n' = planK a n' c d e f g h i j := by
  have e0 : ¬ ((Sum.inr ("belts" : Str) : Key) = Sum.inr ("scans" : Str)) := by decide +kernel
  have e2 : ¬ ((Sum.inr ("slips" : Str) : Key) = Sum.inr ("scans" : Str)) := by decide +kernel
  have e3 : ¬ ((Sum.inr ("words" : Str) : Key) = Sum.inr ("scans" : Str)) := by decide +kernel
  have e4 : ¬ ((Sum.inr ("stretch" : Str) : Key) = Sum.inr ("scans" : Str)) := by decide +kernel
  have e5 : ¬ ((Sum.inr ("rooms" : Str) : Key) = Sum.inr ("scans" : Str)) := by decide +kernel
  have e6 : ¬ ((Sum.inr ("seek" : Str) : Key) = Sum.inr ("scans" : Str)) := by decide +kernel
  have e7 : ¬ ((Sum.inr ("empty" : Str) : Key) = Sum.inr ("scans" : Str)) := by decide +kernel
  have e8 : ¬ ((Sum.inr ("strange" : Str) : Key) = Sum.inr ("scans" : Str)) := by decide +kernel
  have e9 : ¬ ((Sum.inr ("pause" : Str) : Key) = Sum.inr ("scans" : Str)) := by decide +kernel
  unfold putK
  rw [valV_any, planK_s]
  unfold planK
  simp only [Option.isSome_some, if_true, List.map_cons, List.map_nil, if_neg e0, if_neg e2, if_neg e3, if_neg e4, if_neg e5, if_neg e6, if_neg e7, if_neg e8, if_neg e9]
theorem pk_slips {a b c d e f g h i j n' : V} : putK (planK a b c d e f g h i j) (Sum.inr ("slips" : Str) : Key) n' = planK a b n' d e f g h i j := by
  have e0 : ¬ ((Sum.inr ("belts" : Str) : Key) = Sum.inr ("slips" : Str)) := by decide +kernel
  have e1 : ¬ ((Sum.inr ("scans" : Str) : Key) = Sum.inr ("slips" : Str)) := by decide +kernel
  have e3 : ¬ ((Sum.inr ("words" : Str) : Key) = Sum.inr ("slips" : Str)) := by decide +kernel
  have e4 : ¬ ((Sum.inr ("stretch" : Str) : Key) = Sum.inr ("slips" : Str)) := by decide +kernel
  have e5 : ¬ ((Sum.inr ("rooms" : Str) : Key) = Sum.inr ("slips" : Str)) := by decide +kernel
  have e6 : ¬ ((Sum.inr ("seek" : Str) : Key) = Sum.inr ("slips" : Str)) := by decide +kernel
  have e7 : ¬ ((Sum.inr ("empty" : Str) : Key) = Sum.inr ("slips" : Str)) := by decide +kernel
  have e8 : ¬ ((Sum.inr ("strange" : Str) : Key) = Sum.inr ("slips" : Str)) := by decide +kernel
  have e9 : ¬ ((Sum.inr ("pause" : Str) : Key) = Sum.inr ("slips" : Str)) := by decide +kernel
  unfold putK
  rw [valV_any, planK_t]
  unfold planK
  simp only [Option.isSome_some, if_true, List.map_cons, List.map_nil, if_neg e0, if_neg e1, if_neg e3, if_neg e4, if_neg e5, if_neg e6, if_neg e7, if_neg e8, if_neg e9]
theorem pk_words {a b c d e f g h i j n' : V} : putK (planK a b c d e f g h i j) (Sum.inr ("words" : Str) : Key) n' = planK a b c n' e f g h i j := by
  have e0 : ¬ ((Sum.inr ("belts" : Str) : Key) = Sum.inr ("words" : Str)) := by decide +kernel
  have e1 : ¬ ((Sum.inr ("scans" : Str) : Key) = Sum.inr ("words" : Str)) := by decide +kernel
  have e2 : ¬ ((Sum.inr ("slips" : Str) : Key) = Sum.inr ("words" : Str)) := by decide +kernel
  have e4 : ¬ ((Sum.inr ("stretch" : Str) : Key) = Sum.inr ("words" : Str)) := by decide +kernel
  have e5 : ¬ ((Sum.inr ("rooms" : Str) : Key) = Sum.inr ("words" : Str)) := by decide +kernel
  have e6 : ¬ ((Sum.inr ("seek" : Str) : Key) = Sum.inr ("words" : Str)) := by decide +kernel
  have e7 : ¬ ((Sum.inr ("empty" : Str) : Key) = Sum.inr ("words" : Str)) := by decide +kernel
  have e8 : ¬ ((Sum.inr ("strange" : Str) : Key) = Sum.inr ("words" : Str)) := by decide +kernel
  have e9 : ¬ ((Sum.inr ("pause" : Str) : Key) = Sum.inr ("words" : Str)) := by decide +kernel
  unfold putK
  rw [valV_any, planK_w]
  unfold planK
  simp only [Option.isSome_some, if_true, List.map_cons, List.map_nil, if_neg e0, if_neg e1, if_neg e2, if_neg e4, if_neg e5, if_neg e6, if_neg e7, if_neg e8, if_neg e9]
theorem pk_stretch {a b c d e f g h i j n' : V} : putK (planK a b c d e f g h i j) (Sum.inr ("stretch" : Str) : Key) n' = planK a b c d n' f g h i j := by
  have e0 : ¬ ((Sum.inr ("belts" : Str) : Key) = Sum.inr ("stretch" : Str)) := by decide +kernel
  have e1 : ¬ ((Sum.inr ("scans" : Str) : Key) = Sum.inr ("stretch" : Str)) := by decide +kernel
  have e2 : ¬ ((Sum.inr ("slips" : Str) : Key) = Sum.inr ("stretch" : Str)) := by decide +kernel
  have e3 : ¬ ((Sum.inr ("words" : Str) : Key) = Sum.inr ("stretch" : Str)) := by decide +kernel
  have e5 : ¬ ((Sum.inr ("rooms" : Str) : Key) = Sum.inr ("stretch" : Str)) := by decide +kernel
  have e6 : ¬ ((Sum.inr ("seek" : Str) : Key) = Sum.inr ("stretch" : Str)) := by decide +kernel
  have e7 : ¬ ((Sum.inr ("empty" : Str) : Key) = Sum.inr ("stretch" : Str)) := by decide +kernel
  have e8 : ¬ ((Sum.inr ("strange" : Str) : Key) = Sum.inr ("stretch" : Str)) := by decide +kernel
  have e9 : ¬ ((Sum.inr ("pause" : Str) : Key) = Sum.inr ("stretch" : Str)) := by decide +kernel
  unfold putK
  rw [valV_any, planK_x]
  unfold planK
  simp only [Option.isSome_some, if_true, List.map_cons, List.map_nil, if_neg e0, if_neg e1, if_neg e2, if_neg e3, if_neg e5, if_neg e6, if_neg e7, if_neg e8, if_neg e9]
theorem badKey_hit {x : Str} {v : V} {l : List (Str × V)} (h : wordB (.str x) fieldsL = false) : badKey ((x, v) :: l) fieldsL = some x := badKey_at (l := (x, v) :: l) (ws := fieldsL) (i := 0) (q := (x, v)) rfl (fun j q hj => absurd hj (Nat.not_lt_zero _)) h
theorem badKey_hit2 {x y : Str} {v u : V} {l : List (Str × V)} (h1 : wordB (.str y) fieldsL = true) (h : wordB (.str x) fieldsL = false) : badKey ((y, u) :: (x, v) :: l) fieldsL = some x := badKey_at (l := (y, u) :: (x, v) :: l) (ws := fieldsL) (i := 1) (q := (x, v)) rfl (fun j q hj hq => match j, hj, hq with
  | 0, _, hq => by obtain rfl := Option.some.inj hq; exact h1
  | _ + 1, hj, _ => absurd hj (by omega)) h
theorem scan_end {n : Nat} : badScan ((n : Int) - 1) [] [.int n] = some (.int n) := by
  rw [badScan_cons, if_neg]
  unfold scanOk
  rw [show numB (.int n) 1 ((n : Int) - 1) = false from by show (decide ((1 : Int) ≤ n) && decide ((n : Int) ≤ n - 1)) = false; rw [decide_eq_false (show ¬ (n : Int) ≤ n - 1 by omega), Bool.and_false]]
  simp
theorem scans_ok {l : LnD} (h : LnOk l) : badScan ((l.belts.length : Int) - 1) [] (intD l.scans) = none := badScan_ok (fun x hx => by have := h.sr x hx; omega) h.sn (fun x _ q => nomatch q)
theorem slips_ok {l : LnD} (h : LnOk l) : slipsOk (.tuple [.int l.most, .int l.among]) = true := by
  have a := h.m0
  have b := h.m3
  have c := h.a1
  have d := h.a6
  simp [slipsOk, numB, a, b, c, d]
theorem errB_out {K : PySem.W.Frag} {H0 H1 H' : Hp} {p dd : Addr} {o : HO} {cname attr : Str} {d : PyData} (s : Same H0 H1) (np : H1 p = none) (eo : ErrOutB K p (upd H1 p o) H' dd cname attr d) : ErrOut K H0 H' dd cname attr d := by
  obtain ⟨e1, e2, fs, y, e3, e4, e5, e6⟩ := eo
  have nq : dd ≠ p := fun z => by rw [z, upd_same] at e2; cases e2
  rw [upd_ne nq] at e2
  refine ⟨fun b u hb => ?_, s.free e2, fs, y, e3, e4, e5, dp_same (newr_old (s.trans ((Same.refl _).new np))) _ _ e6⟩
  have nb : b ≠ p := L2.ne_of_none (s _ _ hb) np
  exact e1 b u nb (by rw [upd_ne nb]; exact s _ _ hb)
/-- a line at x, a plan at y that makes it again -/
def PairL (K : PySem.W.Frag) (C : Addr) (H : Hp) (x y : V) : Prop := ∃ z D b s t w r pl, x = .ref z ∧ y = .ref D ∧ LnAt K C H z (pl.line pl.scans) ∧ PlanH H D b s t w r pl ∧ LnOk (pl.line pl.scans) ∧ pl.scans.Pairwise (· ≤ ·)
theorem PairL.same {K : PySem.W.Frag} {C : Addr} {H H' : Hp} {x y : V} (h : PairL K C H x y) (e : Same H H') : PairL K C H' x y := by
  obtain ⟨z, D, b, s, t, w, r, pl, h1, h2, h3, h4, h5, h6⟩ := h
  exact ⟨z, D, b, s, t, w, r, pl, h1, h2, h3.same e, h4.keep e, h5, h6⟩
theorem sort_eq {a b : List Int} (h : a.Perm b) (ha : a.Pairwise (· ≤ ·)) (hb : b.Pairwise (· ≤ ·)) : a = b := List.Perm.eq_of_pairwise (fun _ _ _ _ h1 h2 => Int.le_antisymm h1 h2) ha hb h
theorem ptsB_sort {n : Nat} : (ptsB n).Pairwise (· ≤ ·) := by
  unfold ptsB
  rw [List.pairwise_map]
  exact List.pairwise_lt_range.imp fun h => by omega
theorem PlanOk.sort {m w : Nat} {pl : Plan} (h : PlanOk m w pl) : pl.scans.Pairwise (· ≤ ·) := h.sc.imp fun q => Int.le_of_lt q
/-- a.changed(..) of values that are refused -/
theorem ch_bad {K : PySem.W.Frag} {C cF : Addr} {cA : Nat → Addr} {H : Hp} {a p : Addr} {kw : List (Str × V)} {l0 : LnD} {Q : VK} {E : XK} (la : LnAt K C H a l0) (hp : H p = none) (hb : badKey kw fieldsL = none) {ds dS dW : List PyData} {dP dT d : PyData} {n : Nat}
    (hB : (ds = intD l0.belts ∧ ∀ v, fv kw "belts" v = v) ∨ ∃ B xs, (∀ v, fv kw "belts" v = .ref B) ∧ (SqT K H B xs ∨ SqL K H B xs) ∧ DpAll K H xs ds ∧ xs.length ≤ 1000 ∧ ∀ d ∈ ds, Shal 2 d)
    (hS : (dS = intD l0.scans ∧ ∀ v, fv kw "scans" v = v) ∨ ∃ B xs, (∀ v, fv kw "scans" v = .ref B) ∧ Sq K H B xs ∧ DpAll K H xs dS ∧ xs.length ≤ sizeLine ∧ ∀ d ∈ dS, Shal 2 d)
    (hP : (dP = .tuple [.int l0.most, .int l0.among] ∧ ∀ v, fv kw "slips" v = v) ∨ ∃ v0, (∀ v, fv kw "slips" v = v0) ∧ Dp K H v0 dP ∧ Shal 2 dP)
    (hW : (dW = strD l0.words ∧ ∀ v, fv kw "words" v = v) ∨ ∃ B xs, (∀ v, fv kw "words" v = .ref B) ∧ Sq K H B xs ∧ DpAll K H xs dW ∧ ∀ d ∈ dW, Shal 2 d ∧ ∀ es, d ≠ .tuple es)
    (hT : (dT = optD l0.stretch ∧ ∀ v, fv kw "stretch" v = v) ∨ ∃ v0, (∀ v, fv kw "stretch" v = v0) ∧ Dp K H v0 dT ∧ Shal 2 dT)
    (he : lnErr ds.length ds dS dP dW dT = some (n, d)) (k : ∀ dd H', ErrOut K H H' dd (errN n) "given" d → E (.ref (cA n)) (some dd) H') : spChL K C cA cF [.ref a, .ref p] (upd H p (.dK (kwV kw))) Q E := by
  have sm : Same H (upd H p (.dK (kwV kw))) := (Same.refl _).new hp
  obtain ⟨⟨dx, t, tS, tP, tW, ha, hT0, hS0, hP0, hW0⟩, ok⟩ := la
  have n3 := ok.n3
  have sl := ok.sl
  obtain ⟨B, xs, eB, sB, dB, lB, shB⟩ : ∃ B xs, fv kw "belts" (.ref t) = .ref B ∧ (SqT K (upd H p (.dK (kwV kw))) B xs ∨ SqL K (upd H p (.dK (kwV kw))) B xs) ∧ DpAll K (upd H p (.dK (kwV kw))) xs ds ∧ xs.length ≤ 1000 ∧ ∀ d ∈ ds, Shal 2 d := by
    rcases hB with ⟨e, f⟩ | ⟨B, xs, f, h | h, h2, h3, h4⟩
    · exact ⟨t, _, f _, .inl (sqT_same hT0 sm), by rw [e]; exact dpI _, by rw [List.length_map]; omega, by rw [e]; exact shI⟩
    · exact ⟨B, xs, f _, .inl (sqT_same h sm), dpAll_same sm _ _ h2, h3, h4⟩
    · exact ⟨B, xs, f _, .inr (seqs_l (Seqs.of sm) h), dpAll_same sm _ _ h2, h3, h4⟩
  have lx : xs.length = ds.length := dpAll_len _ _ dB
  obtain ⟨aS, xS, eS, sS, dS', lS, shS'⟩ : ∃ B xs, fv kw "scans" (.ref tS) = .ref B ∧ Sq K (upd H p (.dK (kwV kw))) B xs ∧ DpAll K (upd H p (.dK (kwV kw))) xs dS ∧ xs.length ≤ sizeLine ∧ ∀ d ∈ dS, Shal 2 d := by
    rcases hS with ⟨e, f⟩ | ⟨B, xs, f, h, h2, h3, h4⟩
    · exact ⟨tS, _, f _, .inr (sqT_same hS0 sm), by rw [e]; exact dpI _, by rw [List.length_map]; exact Nat.le_trans sl (by decide), by rw [e]; exact shI⟩
    · exact ⟨B, xs, f _, sq_seqs (Seqs.of sm) h, dpAll_same sm _ _ h2, h3, h4⟩
  obtain ⟨eP, dP', shP'⟩ : ∃ _ : True, Dp K (upd H p (.dK (kwV kw))) (fv kw "slips" (.ref tP)) dP ∧ Shal 2 dP := by
    rcases hP with ⟨e, f⟩ | ⟨v0, f, h, h2⟩
    · exact ⟨trivial, by rw [f, e]; exact .tup (sqT_same hP0 sm) (.cons (.int _) (.cons (.int _) .nil)), by rw [e]; exact slips_sh⟩
    · exact ⟨trivial, by rw [f]; exact dp_same sm _ _ h, h2⟩
  obtain ⟨aW, xW, eW, sW, dW', shW'⟩ : ∃ B xs, fv kw "words" (.ref tW) = .ref B ∧ Sq K (upd H p (.dK (kwV kw))) B xs ∧ DpAll K (upd H p (.dK (kwV kw))) xs dW ∧ ∀ d ∈ dW, Shal 2 d ∧ ∀ es, d ≠ .tuple es := by
    rcases hW with ⟨e, f⟩ | ⟨B, xs, f, h, h2, h3⟩
    · exact ⟨tW, _, f _, .inr (sqT_same hW0 sm), by rw [e]; exact dpS _, by rw [e]; exact strD_sh⟩
    · exact ⟨B, xs, f _, sq_seqs (Seqs.of sm) h, dpAll_same sm _ _ h2, h3⟩
  obtain ⟨eT, dT', shT'⟩ : ∃ _ : True, Dp K (upd H p (.dK (kwV kw))) (fv kw "stretch" (optV l0.stretch)) dT ∧ Shal 2 dT := by
    rcases hT with ⟨e, f⟩ | ⟨v0, f, h, h2⟩
    · exact ⟨trivial, by rw [f, e]; exact dpO _, by rw [e]; exact shO _⟩
    · exact ⟨trivial, by rw [f]; exact dp_same sm _ _ h, h2⟩
  exact ⟨a, p, dx, t, tS, tW, .ref tP, optV l0.stretch, kw, rfl, sm _ _ ha, upd_same, .inr ⟨hb, B, aS, aW, xs, xS, xW, ds, dS, dW, dP, dT, eB, sB, eS, eW, dB, lB, shB, sS, dS', shS', lS, sW, dW', shW', dP', shP', dT', shT', fun n' d' e dd H' eo => by rw [lx, he] at e; cases e; exact k dd H' (eo.pre sm), fun e => by rw [lx, he] at e; cases e⟩⟩
/-- all that the law's own body leans on -/
structure LawF (P : Program) (w : World) (K : PySem.W.Frag) (mg : Str → Option Value) (base : Heap) (C cB cM cZ c tP fI a0 a1 a2 cF : Addr) (cA : Nat → Addr) : Prop where
  ch : ChF P w K mg base fI C a0 a1 a2 cA cF
  TC : TyC K C
  bag : ∃ f fd, DefF P w K mg base "_law_bag" 1 ["_law_script"] (spBag K) f fd
  draw : ∃ f fd, DefF P w K mg base "_law_draw" 1 ["_law_bag_here", "_law_many"] spDraw f fd
  plan : ∃ f fd, DefF P w K mg base "_law_planned" 3 ["_law_bag_here", "_law_most", "_law_wide"] spPlan f fd
  madeL : ∃ f fd, DefF P w K mg base "_law_made_line" 10 ["_law_plan"] (spMadeL K C) f fd
  al : ∃ f fd, DefF P w K mg base "_law_alone_so" 12 ["_law_made", "_law_plan"] (spAl K C) f fd
  same : ∃ f fd, DefF P w K mg base "_law_same" 5 ["_law_found", "_law_due"] (spSame K 5) f fd
  whys : ∃ f fd, DefF P w K mg base "_law_whys" 16 ["_law_asks"] (spWhys P w K mg base cB cM cZ) f fd
  p2 : ∃ p g fd, PropF P w K mg base C "stretch" p g (spGet C "_stretch") fd
  be : ∃ f fd, MetF P w K mg base C "belts" 1 ["self"] (spListF K C "_belts") f fd
  cg : ∃ f, Meth K C "changed" f ∧ LnCh K f
  eq : ∃ f fd, PySem.W.findIn K (.ref C) "__eq__" = some (some (.ref f)) ∧ PySem.W.isFn K (.ref f) = true ∧ FnOk P w K mg base CX0 2 f fd ["self", "other"] (spLEq K C) ∧ Binds K fd ["self", "other"] []
  ne : PySem.W.findIn K (.ref C) "__ne__" = some (some (.builtin "object.__ne__"))
  nfC : PySem.W.notFirst K C (.ref C) = true
  tell : ∀ n, n < 4 → ErrTell K cB cM cZ (cA n) (errN n) "given"
  tellF : ErrTell K cB cM cZ cF "InvalidField" "name"
  TB : TabB base mg c tP
  z_range : mg "range" = none
  z_len : mg "len" = none
  z_list : mg "list" = none
  z_dict : mg "dict" = none
  z_zip : mg "zip" = none
def spLaw (K : PySem.W.Frag) (tP : Addr) : Sp := fun vs H Q _ => ∃ (a : Addr) (ns : List Int), vs = [.ref a] ∧ SqL K H a (ns.map V.int) ∧ ns.length ≤ 63 ∧ H tP = some (.tbl #[]) ∧ ∀ H', Q (.bl true) H'
section
variable {P : Program} {w : World} {K : PySem.W.Frag} {mg : Str → Option Value} {base : Heap}
theorem scLaw : FnScope NLaw ["_law_script"] (defScope sLaw) := ⟨rfl, rfl, rfl, by decide +kernel, rfl, by decide +kernel, by decide +kernel⟩
def qLam (f : Addr) (cdv : Value) : Str := (PyProof.Rows.envOfC "law" (defScope sLaw) 0 f cdv).qual ++ "<lambda>"
theorem ok_law {f C cB cM cZ c tP fI a0 a1 a2 cF : Addr} {cA : Nat → Addr} {oc kV doc pm ct : Value} {od an : Option Addr} {osl : Array (Option Value)} (lk : K.lookup f = some ⟨oc, od, .func (PySem.W.fnOf "law" "law" (defArgs sLaw) (defBody sLaw) (defScope sLaw) .none kV doc pm an (.ref c) ct), osl⟩) (hcd : PySem.W.codeIn K (.ref c) "law" = true)
    (L : LawF P w K mg base C cB cM cZ c tP fI a0 a1 a2 cF cA) : FnOk P w K mg base CX0 21 f (PySem.W.fnOf "law" "law" (defArgs sLaw) (defBody sLaw) (defScope sLaw) .none kV doc pm an (.ref c) ct) ["_law_script"] (spLaw K tP) := by
  obtain ⟨fB, gB, Ba⟩ := L.bag
  obtain ⟨fDr, gDr, Dr⟩ := L.draw
  obtain ⟨fPl, gPl, Pl⟩ := L.plan
  obtain ⟨fMl, gMl, Ml⟩ := L.madeL
  obtain ⟨fAl, gAl, Al⟩ := L.al
  obtain ⟨fS, gS, Sa⟩ := L.same
  obtain ⟨fW, gW, Wh⟩ := L.whys
  obtain ⟨p2, g2, fd2, P2⟩ := L.p2
  obtain ⟨fb, gb, Mb⟩ := L.be
  obtain ⟨fC, mCh, Ic⟩ := L.cg
  obtain ⟨fE, gE, eAt, eFn, GEq, bEq⟩ := L.eq
  have eNe := L.ne
  have T := L.ch.T
  have TC := L.TC
  have TB := L.TB
  refine fn_of lk hcd scLaw (fun vs H Q E h => ?_) (fun A outer s H vs Q E hr h => ?_)
  · obtain ⟨a, ns, rfl, _⟩ := h
    rfl
  · obtain ⟨a, ns, rfl, hS, hlen, ht, k⟩ := h
    have nd := scLaw.nd
    have hu : (A.deeper (PyProof.Rows.envOfC "law" (defScope sLaw) s.heap.objs.size f (.ref c))).units + 1 < cLine := by have := hr.units; omega
    have hr16 := hr.mono (j := 16) (by decide)
    have hr12 := hr.mono (j := 12) (by decide)
    have hr10 := hr.mono (j := 10) (by decide)
    have hr5 := hr.mono (j := 5) (by decide)
    have hr3 := hr.mono (j := 3) (by decide)
    have hr2 := hr.mono (j := 2) (by decide)
    have hr1 := hr.mono (j := 1) (by decide)
    have hm : (tP, qLam f (.ref c)) ∈ [(tP, qLam f (.ref c))] := List.mem_singleton.mpr rfl
    have hu0 : ∀ p ∈ [(tP, qLam f (.ref c))], p.1 = tP → p.2 = qLam f (.ref c) := fun p hp _ => by rw [List.mem_singleton.mp hp]
    refine ⟨_, PSs.nox (pss_cons (ps_set (i := 1) nd rfl (Or.inr rfl) (pe_call Ba.G hr1 rfl Ba.m Ba.kp Ba.b .nil pass0 (pa_cons (pv 0) pa_nil)))
      (pss_cons (ps_for PassesOwn.never rfl (pi_range1 (by rfl) L.z_range (pa_cons pe_int pa_nil)) (pg_name (i := 2) nd rfl (Or.inl rfl)) (pss_cons (ps_par (i := 3) (j := 4) (by rfl) nd rfl rfl (by decide) rfl rfl (pa_cons (pe_call Pl.G hr3 rfl Pl.m Pl.kp Pl.b .nil pass0 (pa_cons (pv 1) (pa_cons pe_int (pa_cons pe_int pa_nil)))) (pa_cons (pe_call Pl.G hr3 rfl Pl.m Pl.kp Pl.b .nil pass0 (pa_cons (pv 1) (pa_cons pe_int (pa_cons pe_int pa_nil)))) pa_nil)) (by rfl))
      (pss_cons (ps_asg (pe_tup (pa_cons (pe_call Ml.G hr10 rfl Ml.m Ml.kp Ml.b .nil pass0 (pa_cons (pv 3) pa_nil)) (pa_cons (pe_callB call_len_seq (by rfl) L.z_len PySem.boot_len (pa_cons (pe_dget hu (pv 3) pe_str (fun _ _ => rfl)) pa_nil)) pa_nil))) (pg_tup rfl (pgs_cons (pg_name (i := 5) nd rfl (Or.inr rfl)) (pgs_cons (pg_name (i := 6) nd rfl (Or.inr rfl)) pgs_nil))))
      (pss_cons (ps_par (i := 7) (j := 8) (by rfl) nd rfl rfl (by decide) rfl rfl (pa_cons (pe_lc (own := [("_law_k", 9)]) (g := (gName 9)) (tt := tYes) rfl nd (pi_range1 (by rfl) L.z_range (pa_cons (pv 6) pa_nil)) (blkOk_by (N := NLaw) (sc := defScope sLaw) (by decide +kernel)) (fun _ _ _ _ _ => pg_name (i := 9) nd rfl (Or.inl rfl)) (fun _ _ _ _ _ => pts_nil) (fun _ _ _ _ _ => pe_op op_add pe_int (pe_call Dr.G hr1 rfl Dr.m Dr.kp Dr.b .nil pass0 (pa_cons (pv 1) (pa_cons pe_int pa_nil))))) (pa_cons (pe_listRg rfl (by rfl) L.z_list (prg_2 (by rfl) L.z_range pe_int (pv 6))) pa_nil)) (by rfl))
      (pss_cons (ps_set (i := 10) nd rfl (Or.inl rfl) (pe_lst (pa_cons (pe_methKw T.cl mCh (ch_0 Ic L.ch) hr10 Ic.kp passF (pv 5) pk_nil) (pa_cons (pe_methKw T.cl mCh (ch_belts Ic L.ch) hr10 Ic.kp passF (pv 5) (pk_cons (pv 7) pk_nil)) (pa_cons (pe_methKw T.cl mCh (ch_wt Ic L.ch) hr10 Ic.kp passF (pv 5) (pk_cons (pe_dget hu (pv 4) pe_str (fun _ _ => rfl)) (pk_cons (pe_dget hu (pv 4) pe_str (fun _ _ => rfl)) pk_nil))) (pa_cons (pe_methKw T.cl mCh (ch_sp Ic L.ch) hr10 Ic.kp passF (pv 5) (pk_cons (pv 8) (pk_cons (pe_dget hu (pv 4) pe_str (fun _ _ => rfl)) pk_nil))) pa_nil))))))
      (pss_cons (ps_set (i := 11) nd rfl (Or.inl rfl) (pe_lst (pa_cons (pv 3) (pa_cons (pe_callTy call_dictD (by rfl) L.z_dict (by decide +kernel) (pa_cons (pv 3) pa_nil)) (pa_cons (pe_callTy call_dictD (by rfl) L.z_dict (by decide +kernel) (pa_cons (pv 3) pa_nil)) (pa_cons (pe_callTy call_dictD (by rfl) L.z_dict (by decide +kernel) (pa_cons (pv 3) pa_nil)) pa_nil))))))
      (pss_cons (ps_asg (pv 7) (pg_sub (pe_ix ix_list (pv 11) pe_int (fun _ _ => rfl)) pe_str (set_dict hu)))
      (pss_cons (ps_asg (pe_tup (pa_cons (pe_dget hu (pv 4) pe_str (fun _ _ => rfl)) (pa_cons (pe_dget hu (pv 4) pe_str (fun _ _ => rfl)) pa_nil))) (pg_tup rfl (pgs_cons (pg_sub (pe_ix ix_list (pv 11) pe_int (fun _ _ => rfl)) pe_str (set_dict hu)) (pgs_cons (pg_sub (pe_ix ix_list (pv 11) pe_int (fun _ _ => rfl)) pe_str (set_dict hu)) pgs_nil))))
      (pss_cons (ps_asg (pe_tup (pa_cons (pv 8) (pa_cons (pe_dget hu (pv 4) pe_str (fun _ _ => rfl)) pa_nil))) (pg_tup rfl (pgs_cons (pg_sub (pe_ix ix_list (pv 11) pe_int (fun _ _ => rfl)) pe_str (set_dict hu)) (pgs_cons (pg_sub (pe_ix ix_list (pv 11) pe_int (fun _ _ => rfl)) pe_str (set_dict hu)) pgs_nil))))
      (pss_cons (ps_if (pt_not (pt_val (pe_call Sa.G hr5 rfl Sa.m Sa.kp Sa.b .nil pass0 (pa_cons (pe_lc (own := [("_law_late", 12), ("_law_row", 13)]) (g := (gTup K 2 (gCons (gName 12) (gCons (gName 13) gNil)))) (tt := tYes) rfl nd (RZ.pi_zipA (by rfl) L.z_zip (pa_cons (pv 10) (pa_cons (pv 11) pa_nil))) (blkOk_by (N := NLaw) (sc := defScope sLaw) (by decide +kernel)) (fun _ _ _ _ _ => pg_tup rfl (pgs_cons (pg_name (i := 12) nd rfl (.inl rfl) (hf := Or.inr rfl)) (pgs_cons (pg_name (i := 13) nd rfl (.inl rfl) (hf := Or.inr rfl)) pgs_nil))) (fun _ _ _ _ _ => pts_nil) (fun _ _ _ _ _ => pe_cmpR (r := rOwn K C (spLEq K C)) (op_own GEq hr2 eAt eFn bEq pass0) (pv 12) (pe_call Ml.G hr10 rfl Ml.m Ml.kp Ml.b .nil pass0 (pa_cons (pv 13) pa_nil)) (nomark _))) (pa_cons (pe_op op_rep (pe_lst (pa_cons pe_bl pa_nil)) pe_int) pa_nil))))) (pss_one (ps_ret pe_bl)) pss_nil)
      (pss_cons (ps_if (PW.pt (pw_or (pt_cmpR (op_neOwn GEq hr3 eAt eNe TC.hm eFn bEq pass0) (pv 5) (pe_call Ml.G hr10 rfl Ml.m Ml.kp Ml.b .nil pass0 (pa_cons (pv 3) pa_nil)) (nomark _)) (pw_or1 (pt_cmpR (op_neD hr.units) (pe_meth0 (pe_ix ix_list (pv 10) pe_int (fun _ _ => rfl)) T.cl Mb.m Mb.G hr1 Mb.b .nil pass0) (pv 7) (nomark _))))) (pss_one (ps_ret pe_bl)) pss_nil)
      (pss_cons (ps_if (PW.pt (pw_or (pt_cmpR (op_neD hr.units) (pe_prop (pe_ix ix_list (pv 10) pe_int (fun _ _ => rfl)) T.cl P2.hp P2.G hr2 P2.b .nil pass0 rfl) (pe_dget hu (pv 4) pe_str (fun _ _ => rfl)) (nomark _)) (pw_or1 (pt_not (pt_val (pe_call Al.G hr12 rfl Al.m Al.kp Al.b .nil pass0 (pa_cons (pv 5) (pa_cons (pv 3) pa_nil)))))))) (pss_one (ps_ret pe_bl)) pss_nil)
      (pss_cons (ps_set (i := 14) nd rfl (Or.inl rfl) (pe_lst (pa_cons (pe_lamO TB rfl hm hu0 rfl (lamS_by (show lamSB (defScope sLaw) _ = true from by decide +kernel))) (pa_cons (pe_lamO TB rfl hm hu0 rfl (lamS_by (show lamSB (defScope sLaw) _ = true from by decide +kernel))) (pa_cons (pe_lamO TB rfl hm hu0 rfl (lamS_by (show lamSB (defScope sLaw) _ = true from by decide +kernel))) (pa_cons (pe_lamO TB rfl hm hu0 rfl (lamS_by (show lamSB (defScope sLaw) _ = true from by decide +kernel))) (pa_cons (pe_lamO TB rfl hm hu0 rfl (lamS_by (show lamSB (defScope sLaw) _ = true from by decide +kernel))) pa_nil)))))))
      (pss_cons (ps_set (i := 15) nd rfl (Or.inl rfl) (pe_lst (pa_cons (pe_tup (pa_cons pe_str (pa_cons (pe_tup (pa_cons pe_str pa_nil)) pa_nil))) (pa_cons (pe_tup (pa_cons pe_str (pa_cons (pe_tup (pa_cons pe_str pa_nil)) pa_nil))) (pa_cons (pe_tup (pa_cons pe_str (pa_cons (pe_tup (pa_cons pe_int pa_nil)) pa_nil))) (pa_cons (pe_tup (pa_cons pe_str (pa_cons (pe_tup (pa_cons (pv 6) pa_nil)) pa_nil))) (pa_cons (pe_tup (pa_cons pe_str (pa_cons (pe_tup (pa_cons pe_str pa_nil)) pa_nil))) pa_nil)))))))
      (pss_one (ps_if (pt_not (pt_val (pe_call Sa.G hr5 rfl Sa.m Sa.kp Sa.b .nil pass0 (pa_cons (pe_callT Wh.G hr16 (fun _ => rfl) rfl rfl (by rfl) Wh.m Wh.kp Wh.b (pa_cons (pv 14) pa_nil)) (pa_cons (pv 15) pa_nil))))) (pss_one (ps_ret pe_bl)) pss_nil))))))))))))))))
      (pss_one (ps_ret pe_bl)))), ?_⟩
    refine ⟨_, rfl, a, ns, rfl, hS, hlen, fun H1 bp sm0 hbp ⟨cc, hb0⟩ => ?_⟩
    refine ⟨5, rfl, by decide, by decide, ?_⟩
    refine for_range (lo := 0) (n := 5) (fun i σ H' => ∃ v2 v3 v4 v5 v6 v7 v8 v9 v10 v11 v12 v13 v14 v15 : Option V, σ = [some (.ref a), some (.ref bp), v2, v3, v4, v5, v6, v7, v8, v9, v10, v11, v12, v13, v14, v15] ∧ BagC H' bp cc ∧ Tabs [(tP, qLam f (.ref c))] H') ⟨none, none, none, none, none, none, none, none, none, none, none, none, none, none, rfl, hb0, ?_⟩ ?_ ?_
    · intro p hp
      rw [List.mem_singleton.mp hp]
      exact TabS.nil (sm0 _ _ ht)
    · rintro i σ H2 hi ⟨v2, v3, v4, v5, v6, v7, v8, v9, v10, v11, v12, v13, v14, v15, rfl, hb2, tb2⟩
      refine ⟨_, rfl, bp, cc, 3, 3, rfl, hb2, by decide, by decide, by decide, by decide, fun H3 D b sc t wd r pl bt3 hb3 _ _ _ _ _ _ ph ok => ?_⟩
      have tb3 := tabs_but tb2 hb2 bt3
      refine ⟨_, rfl, bp, cc, 3, 3, rfl, hb3, by decide, by decide, by decide, by decide, fun H4 Dz bz sz tz wz rz pz bt4 hb4 _ _ _ _ _ _ phz okz => ?_⟩
      have tb4 := tabs_but tb3 hb3 bt4
      have ph4 := ph.but hb3 bt4
      clear bt3 bt4 tb2 hb2 tb3 hb3 ph
      refine ⟨_, _, rfl, ?_⟩
      -- made, many
      refine ⟨_, rfl, D, b, sc, t, wd, r, pl, rfl, ph4, ok.line, fun x H5 ss _ s5 pm5 sr5 la5 => ?_⟩
      obtain rfl : ss = pl.scans := sort_eq pm5 sr5 ok.sort
      have ph5 := ph4.keep s5
      have phz5 := phz.keep s5
      have hb5 := hb4.same s5
      have tb5 := tabs_same tb4 s5
      clear s5 pm5 sr5 ph4 hb4 tb4 phz
      have nb3 : pl.belts.length ≤ 3 := la5.ok.n3
      have nb1 : 1 ≤ pl.belts.length := la5.ok.n1
      refine ⟨_, rfl, D, _, rfl, dget_some ph5.dk (planK_b ..), b, _, rfl, .inl (SqL.of ph5.hb), by show 2 ≤ sizeLine; decide, fun tt htt => ?_⟩
      rw [List.length_map]
      have s6 : Same H5 (upd H5 tt (.tup [.ref x, .int (pl.belts.length : Nat)])) := (Same.refl _).new htt
      refine ⟨tt, _, rfl, .inl (.inl upd_same), rfl, _, _, rfl, _, _, rfl, rfl, ?_⟩
      generalize upd H5 tt (.tup [.ref x, .int (pl.belts.length : Nat)]) = H6 at s6
      have ph6 := ph5.keep s6
      have phz6 := phz5.keep s6
      have hb6 := hb5.same s6
      have tb6 := tabs_same tb5 s6
      have la6 := la5.same s6
      clear s6 htt ph5 phz5 hb5 tb5 la5
      -- rooms_z, points
      refine ⟨_, rfl, (pl.belts.length : Nat), rfl, by omega, by omega, fun R0 nR => ?_⟩
      have nRb := hb6.ne nR
      refine lc_range (lo := 0) (n := ((pl.belts.length : Nat) : Int).toNat) (fun i H' => But bp (upd H6 R0 (.lst [])) (upd H' R0 (.lst [])) ∧ BagC H' bp cc ∧ Drawn H' R0 i 3) ⟨by rw [upd_upd]; exact But.refl _ _, hb6.new nR, ⟨[], upd_same, rfl, fun r hr => nomatch hr⟩⟩ ?_ ?_
      · rintro i H' hi ⟨q1, q2, q3⟩
        refine ⟨rfl, _, rfl, bp, 3, cc, rfl, q2, by decide, by decide, fun G r b2 b3 r0 r1 => ?_⟩
        have dr3 : Drawn G R0 i 3 := by
          obtain ⟨rs, e, q⟩ := q3
          exact ⟨rs, b2 _ _ nRb.1 e, q⟩
        obtain ⟨acc, e, l, w⟩ := dr3.step (by omega) r0 r1
        refine ⟨1, r, rfl, rfl, acc, e, l, ?_, b3.upd nRb.1 nRb.2, w⟩
        rw [upd_upd]
        intro b' o nb eb
        have z := q1 b' o nb eb
        by_cases q : b' = R0
        · rw [q, upd_same] at z ⊢; exact z
        · rw [upd_ne q] at z ⊢; exact b2 _ _ nb z
      rintro H7 ⟨q1, hb7, rms, eR7, lR, rR⟩
      have bt7 : But bp H6 H7 := fun b' o nb eb => by
        have nq : b' ≠ R0 := L2.ne_of_none eb nR
        have z := q1 b' o nb (by rw [upd_ne nq]; exact eb)
        rw [upd_ne nq] at z
        exact z
      have ph7 := ph6.but hb6 bt7
      have phz7 := phz6.but hb6 bt7
      have tb7 := tabs_but tb6 hb6 bt7
      have la7 := lnAt_but la6 hb6 bt7
      clear q1 bt7 ph6 phz6 tb6 la6 hb6
      have lR : rms.length = pl.belts.length := by omega
      refine ⟨_, rfl, 1, _, rfl, rfl, RgOk.of_le (by decide) (by omega) (by decide) (by omega), fun P0 nP => ?_⟩
      rw [rgV_map nb1]
      have s8 : Same H7 (upd H7 P0 (.lst ((ptsB pl.belts.length).map V.int))) := (Same.refl _).new nP
      have eP8 : upd H7 P0 (.lst ((ptsB pl.belts.length).map V.int)) P0 = some (.lst ((ptsB pl.belts.length).map V.int)) := upd_same
      refine ⟨_, _, rfl, ?_⟩
      generalize upd H7 P0 (.lst ((ptsB pl.belts.length).map V.int)) = H8 at s8 eP8
      have ph8 := ph7.keep s8
      have phz8 := phz7.keep s8
      have hb8 := hb7.same s8
      have tb8 := tabs_same tb7 s8
      have la8 := la7.same s8
      have eR8 := s8 _ _ eR7
      clear s8 nP ph7 phz7 hb7 tb7 la7 eR7
      have lok : LnOk (pl.line pl.scans) := la8.ok
      have ins : ∀ {G : Hp}, Same H8 G → ∃ dx fs, G x = some (.ins C dx fs) ∧ fs.lookup ("changed" : Str) = none := fun {G} sm => by
        obtain ⟨⟨dx, t1, tS, tP, tW, hx, _⟩, _⟩ := la8.same sm
        exact ⟨dx, _, hx, rfl⟩
      -- found
      obtain ⟨dx1, fs1, hx1, hf1⟩ := ins (Same.refl H8)
      refine ⟨_, rfl, x, dx1, fs1, rfl, hx1, hf1, rfl, fun p1 np1 => ch_go (kw := []) (l := pl.line pl.scans) la8 np1 rfl lok (.inl ⟨rfl, fun _ => rfl⟩) (.inl ⟨rfl, fun _ => rfl⟩) (.inl ⟨rfl, rfl, fun _ => rfl⟩) (.inl ⟨rfl, fun _ => rfl⟩) (.inl ⟨rfl, fun _ => rfl⟩) fun y1 G1 ss1 _ g1 pm1 sr1 lb1 => ?_⟩
      obtain rfl : ss1 = pl.scans := sort_eq pm1 sr1 ok.sort
      obtain ⟨dx2, fs2, hx2, hf2⟩ := ins g1
      refine ⟨_, rfl, x, dx2, fs2, rfl, hx2, hf2, _, rfl, rfl, fun p2 np2 => ch_go (kw := [("belts", .ref R0)]) (l := { pl.line pl.scans with belts := rms }) (la8.same g1) np2 (badKey_1 (by decide +kernel)) ?_ (.inr ⟨R0, fun _ => fv_hit, .inr (SqL.of (g1 _ _ eR8))⟩) (.inl ⟨rfl, fun _ => fv_miss (by decide +kernel)⟩) (.inl ⟨rfl, rfl, fun _ => fv_miss (by decide +kernel)⟩) (.inl ⟨rfl, fun _ => fv_miss (by decide +kernel)⟩) (.inl ⟨rfl, fun _ => fv_miss (by decide +kernel)⟩) fun y2 G2 ss2 _ g2 pm2 sr2 lb2 => ?_⟩
      · exact ⟨by show 1 ≤ rms.length; omega, by show rms.length ≤ 3; omega, rR, lok.sn, fun y hy => by
          have := lok.sr y hy
          show 1 ≤ y ∧ y < (rms.length : Int)
          rw [lR]; exact this, lok.m0, lok.m3, lok.a1, lok.a6, lok.ws, lok.st⟩
      obtain rfl : ss2 = pl.scans := sort_eq pm2 sr2 ok.sort
      have g12 := g1.trans g2
      have pz2 := phz8.keep g12
      have lokz := okz.line
      obtain ⟨dx3, fs3, hx3, hf3⟩ := ins g12
      refine ⟨_, rfl, x, dx3, fs3, rfl, hx3, hf3, _, rfl, Dz, _, rfl, dget_some pz2.dk (planK_w ..), _, rfl, Dz, _, rfl, dget_some pz2.dk (planK_x ..), rfl, fun p3 np3 => ch_go (kw := [("words", .ref wz), ("stretch", optV pz.stretch)]) (l := { pl.line pl.scans with words := pz.words, stretch := pz.stretch }) (la8.same g12) np3 (badKey_2 (by decide +kernel) (by decide +kernel)) ⟨lok.n1, lok.n3, lok.bl, lok.sn, lok.sr, lok.m0, lok.m3, lok.a1, lok.a6, lokz.ws, lokz.st⟩ (.inl ⟨rfl, fun _ => (fv_miss (by decide +kernel)).trans (fv_miss (by decide +kernel))⟩) (.inl ⟨rfl, fun _ => (fv_miss (by decide +kernel)).trans (fv_miss (by decide +kernel))⟩) (.inl ⟨rfl, rfl, fun _ => (fv_miss (by decide +kernel)).trans (fv_miss (by decide +kernel))⟩) (.inr ⟨wz, fun _ => fv_hit, .inl (SqL.of pz2.hw)⟩) (.inr fun _ => (fv_miss (by decide +kernel)).trans fv_hit) fun y3 G3 ss3 _ g3 pm3 sr3 lb3 => ?_⟩
      obtain rfl : ss3 = pl.scans := sort_eq pm3 sr3 ok.sort
      have g13 := g12.trans g3
      have pz3 := phz8.keep g13
      obtain ⟨dx4, fs4, hx4, hf4⟩ := ins g13
      refine ⟨_, rfl, x, dx4, fs4, rfl, hx4, hf4, _, rfl, _, rfl, Dz, _, rfl, dget_some pz3.dk (planK_t ..), rfl, fun p4 np4 => ch_go (kw := [("scans", .ref P0), ("slips", .ref tz)]) (l := { pl.line pl.scans with scans := ptsB pl.belts.length, most := pz.most, among := pz.among }) (la8.same g13) np4 (badKey_2 (by decide +kernel) (by decide +kernel)) ⟨lok.n1, lok.n3, lok.bl, ptsB_nd, fun y hy => ptsB_mem hy, lokz.m0, lokz.m3, lokz.a1, lokz.a6, lok.ws, lok.st⟩ (.inl ⟨rfl, fun _ => (fv_miss (by decide +kernel)).trans (fv_miss (by decide +kernel))⟩) (.inr ⟨P0, fun _ => fv_hit, .inl (SqL.of (g13 _ _ eP8))⟩) (.inr ⟨tz, fun _ => (fv_miss (by decide +kernel)).trans fv_hit, SqT.of pz3.ht⟩) (.inl ⟨rfl, fun _ => (fv_miss (by decide +kernel)).trans (fv_miss (by decide +kernel))⟩) (.inl ⟨rfl, fun _ => (fv_miss (by decide +kernel)).trans (fv_miss (by decide +kernel))⟩) fun y4 G4 ss4 _ g4 pm4 sr4 lb4 => ?_⟩
      obtain rfl : ss4 = ptsB pl.belts.length := sort_eq pm4 sr4 ptsB_sort
      refine ⟨by show 4 ≤ sizeLine; decide, fun F0 nF => ?_⟩
      have g5 : Same G4 (upd G4 F0 (.lst [.ref y1, .ref y2, .ref y3, .ref y4])) := (Same.refl _).new nF
      have eF : upd G4 F0 (.lst [.ref y1, .ref y2, .ref y3, .ref y4]) F0 = some (.lst [.ref y1, .ref y2, .ref y3, .ref y4]) := upd_same
      generalize upd G4 F0 (.lst [.ref y1, .ref y2, .ref y3, .ref y4]) = G5 at g5 eF
      have g15 := (g13.trans g4).trans g5
      have lb1 := lb1.same (((g2.trans g3).trans g4).trans g5)
      have lb2 := lb2.same ((g3.trans g4).trans g5)
      have lb3 := lb3.same (g4.trans g5)
      have lb4 := lb4.same g5
      have ph9 := ph8.keep g15
      have phz9 := phz8.keep g15
      have hb9 := hb8.same g15
      have tb9 := tabs_same tb8 g15
      have la9 := la8.same g15
      have eR9 := g15 _ _ eR8
      have eP9 := g15 _ _ eP8
      clear g1 g2 g3 g4 g5 g12 g13 g15 ph8 phz8 hb8 tb8 la8 eR8 eP8 ins pz2 pz3 hx1 hx2 hx3 hx4 sr1 sr2 sr3 sr4 pm1 pm2 pm3 pm4 nF
      -- rows
      obtain ⟨kv, ekv⟩ : ∃ kv, kv = planK (.ref b) (.ref sc) (.ref t) (.ref wd) (optV pl.stretch) (.ref r) (.int pl.seek) (.str pl.empty) (.str pl.strange) (.str pl.pause) := ⟨_, rfl⟩
      have dk9 : G5 D = some (.dK kv) := by rw [ekv]; exact ph9.dk
      have ln40 : kv.length < sizeLine := by rw [ekv]; show 10 < sizeLine; decide
      refine ⟨_, rfl, _, rfl, D, kv, rfl, .inl dk9, fun r1 hr1 => ?_⟩
      have smA : Same G5 (upd G5 r1 (.dK kv)) := (Same.refl _).new hr1
      refine ⟨_, rfl, D, kv, rfl, .inl (smA _ _ dk9), fun r2 hr2 => ?_⟩
      have smB := smA.new (o := .dK kv) hr2
      refine ⟨_, rfl, D, kv, rfl, .inl (smB _ _ dk9), fun r3 hr3 => ?_⟩
      have smC := smB.new (o := .dK kv) hr3
      refine ⟨by show 4 ≤ sizeLine; decide, fun l44 hl44 => ?_⟩
      have smD := smC.new (o := .lst [.ref D, .ref r1, .ref r2, .ref r3]) hl44
      have n2 := smA.free hr2
      have n3 := smB.free hr3
      have n4 := smC.free hl44
      have m1 := (((Same.refl (upd G5 r1 (.dK kv))).new (o := .dK kv) hr2).new (o := .dK kv) hr3).new (o := .lst [.ref D, .ref r1, .ref r2, .ref r3]) hl44 _ _ upd_same
      have m2 := ((Same.refl (upd (upd G5 r1 (.dK kv)) r2 (.dK kv))).new (o := .dK kv) hr3).new (o := .lst [.ref D, .ref r1, .ref r2, .ref r3]) hl44 _ _ upd_same
      have m3 := ((Same.refl (upd (upd (upd G5 r1 (.dK kv)) r2 (.dK kv)) r3 (.dK kv))).new (o := .lst [.ref D, .ref r1, .ref r2, .ref r3]) hl44) _ _ upd_same
      have m4 : upd (upd (upd (upd G5 r1 (.dK kv)) r2 (.dK kv)) r3 (.dK kv)) l44 (.lst [.ref D, .ref r1, .ref r2, .ref r3]) l44 = some (.lst [.ref D, .ref r1, .ref r2, .ref r3]) := upd_same
      have d12 : r1 ≠ r2 := L2.ne_of_none (upd_same (H := G5) (a := r1) (o := .dK kv)) hr2
      have d13 : r1 ≠ r3 := L2.ne_of_none (((Same.refl (upd G5 r1 (.dK kv))).new (o := .dK kv) hr2) _ _ upd_same) hr3
      have d23 : r2 ≠ r3 := L2.ne_of_none (upd_same (H := upd G5 r1 (.dK kv)) (a := r2) (o := .dK kv)) hr3
      generalize upd (upd (upd (upd G5 r1 (.dK kv)) r2 (.dK kv)) r3 (.dK kv)) l44 (.lst [.ref D, .ref r1, .ref r2, .ref r3]) = G6 at smD m1 m2 m3 m4
      clear smA smB smC hr2 hr3 hl44
      have l1 : l44 ≠ r1 := L2.ne_of m4 m1 (fun z => nomatch z)
      have l2 : l44 ≠ r2 := L2.ne_of m4 m2 (fun z => nomatch z)
      have l3 : l44 ≠ r3 := L2.ne_of m4 m3 (fun z => nomatch z)
      -- rows[1]['belts']
      refine ⟨_, rfl, _, rfl, l44, _, _, _, rfl, rfl, SqL.of m4, rfl, r1, _, rfl, DPut.k (k := Sum.inr "belts") m1 ln40, ?_⟩
      have q1 : upd G6 r1 (.dK (putK kv (Sum.inr "belts") (.ref R0))) r1 = some (.dK (putK kv (Sum.inr "belts") (.ref R0))) := upd_same
      have q2 : upd G6 r1 (.dK (putK kv (Sum.inr "belts") (.ref R0))) r2 = some (.dK kv) := by rw [upd_ne d12.symm]; exact m2
      have q3 : upd G6 r1 (.dK (putK kv (Sum.inr "belts") (.ref R0))) r3 = some (.dK kv) := by rw [upd_ne d13.symm]; exact m3
      have q4 : upd G6 r1 (.dK (putK kv (Sum.inr "belts") (.ref R0))) l44 = some (.lst [.ref D, .ref r1, .ref r2, .ref r3]) := by rw [upd_ne l1]; exact m4
      have smE := smD.own (o := .dK (putK kv (Sum.inr "belts") (.ref R0))) hr1
      generalize upd G6 r1 (.dK (putK kv (Sum.inr "belts") (.ref R0))) = G7 at q1 q2 q3 q4 smE
      clear m1 m2 m3 m4 smD
      have hl16 : ∀ (k : Key) (v : V), (putK kv k v).length < sizeLine := fun k v => Nat.lt_of_le_of_lt (length_putK kv k v) (by rw [ekv]; show 11 < sizeLine; decide)
      -- rows[2]['words'], rows[2]['stretch']
      refine ⟨_, rfl, Dz, _, rfl, dget_some (smE _ _ phz9.dk) (planK_w ..), _, rfl, Dz, _, rfl, dget_some (smE _ _ phz9.dk) (planK_x ..), by show 2 ≤ sizeLine; decide, fun t45 ht45 => ?_⟩
      have s45 : Same G7 (upd G7 t45 (.tup [.ref wz, optV pz.stretch])) := (Same.refl _).new ht45
      have n45 := smE.free ht45
      have q1 := s45 _ _ q1
      have q2 := s45 _ _ q2
      have q3 := s45 _ _ q3
      have q4 := s45 _ _ q4
      have smF := smE.trans s45
      refine ⟨t45, _, rfl, .inl (.inl upd_same), rfl, _, _, rfl, _, rfl, l44, _, _, _, rfl, rfl, SqL.of q4, rfl, r2, _, rfl, DPut.k (k := Sum.inr "words") q2 ln40, ?_⟩
      generalize upd G7 t45 (.tup [.ref wz, optV pz.stretch]) = G8 at q1 q2 q3 q4 smF
      have q5 : upd G8 r2 (.dK (putK kv (Sum.inr "words") (.ref wz))) l44 = some (.lst [.ref D, .ref r1, .ref r2, .ref r3]) := by rw [upd_ne l2]; exact q4
      refine ⟨_, _, rfl, _, rfl, l44, _, _, _, rfl, rfl, SqL.of q5, rfl, r2, _, rfl, DPut.k (k := Sum.inr "stretch") upd_same (hl16 _ _), rfl, ?_⟩
      rw [upd_upd]
      have w1 : upd G8 r2 (.dK (putK (putK kv (Sum.inr "words") (.ref wz)) (Sum.inr "stretch") (optV pz.stretch))) r1 = some (.dK (putK kv (Sum.inr "belts") (.ref R0))) := by rw [upd_ne d12]; exact q1
      have w2 : upd G8 r2 (.dK (putK (putK kv (Sum.inr "words") (.ref wz)) (Sum.inr "stretch") (optV pz.stretch))) r2 = some (.dK (putK (putK kv (Sum.inr "words") (.ref wz)) (Sum.inr "stretch") (optV pz.stretch))) := upd_same
      have w3 : upd G8 r2 (.dK (putK (putK kv (Sum.inr "words") (.ref wz)) (Sum.inr "stretch") (optV pz.stretch))) r3 = some (.dK kv) := by rw [upd_ne d23.symm]; exact q3
      have w4 : upd G8 r2 (.dK (putK (putK kv (Sum.inr "words") (.ref wz)) (Sum.inr "stretch") (optV pz.stretch))) l44 = some (.lst [.ref D, .ref r1, .ref r2, .ref r3]) := by rw [upd_ne l2]; exact q4
      have smG := smF.own (o := .dK (putK (putK kv (Sum.inr "words") (.ref wz)) (Sum.inr "stretch") (optV pz.stretch))) n2
      generalize upd G8 r2 (.dK (putK (putK kv (Sum.inr "words") (.ref wz)) (Sum.inr "stretch") (optV pz.stretch))) = G9 at w1 w2 w3 w4 smG
      clear q1 q2 q3 q4 q5 smE smF s45 ht45
      -- rows[3]['scans'], rows[3]['slips']
      refine ⟨_, rfl, _, rfl, Dz, _, rfl, dget_some (smG _ _ phz9.dk) (planK_t ..), by show 2 ≤ sizeLine; decide, fun t46 ht46 => ?_⟩
      have s46 : Same G9 (upd G9 t46 (.tup [.ref P0, .ref tz])) := (Same.refl _).new ht46
      have w1 := s46 _ _ w1
      have w2 := s46 _ _ w2
      have w3 := s46 _ _ w3
      have w4 := s46 _ _ w4
      have smH := smG.trans s46
      refine ⟨t46, _, rfl, .inl (.inl upd_same), rfl, _, _, rfl, _, rfl, l44, _, _, _, rfl, rfl, SqL.of w4, rfl, r3, _, rfl, DPut.k (k := Sum.inr "scans") w3 ln40, ?_⟩
      generalize upd G9 t46 (.tup [.ref P0, .ref tz]) = G10 at w1 w2 w3 w4 smH
      have w5 : upd G10 r3 (.dK (putK kv (Sum.inr "scans") (.ref P0))) l44 = some (.lst [.ref D, .ref r1, .ref r2, .ref r3]) := by rw [upd_ne l3]; exact w4
      refine ⟨_, _, rfl, _, rfl, l44, _, _, _, rfl, rfl, SqL.of w5, rfl, r3, _, rfl, DPut.k (k := Sum.inr "slips") upd_same (hl16 _ _), rfl, ?_⟩
      rw [upd_upd]
      have x1 : upd G10 r3 (.dK (putK (putK kv (Sum.inr "scans") (.ref P0)) (Sum.inr "slips") (.ref tz))) r1 = some (.dK (putK kv (Sum.inr "belts") (.ref R0))) := by rw [upd_ne d13]; exact w1
      have x2 : upd G10 r3 (.dK (putK (putK kv (Sum.inr "scans") (.ref P0)) (Sum.inr "slips") (.ref tz))) r2 = some (.dK (putK (putK kv (Sum.inr "words") (.ref wz)) (Sum.inr "stretch") (optV pz.stretch))) := by rw [upd_ne d23]; exact w2
      have x3 : upd G10 r3 (.dK (putK (putK kv (Sum.inr "scans") (.ref P0)) (Sum.inr "slips") (.ref tz))) r3 = some (.dK (putK (putK kv (Sum.inr "scans") (.ref P0)) (Sum.inr "slips") (.ref tz))) := upd_same
      have x4 : upd G10 r3 (.dK (putK (putK kv (Sum.inr "scans") (.ref P0)) (Sum.inr "slips") (.ref tz))) l44 = some (.lst [.ref D, .ref r1, .ref r2, .ref r3]) := by rw [upd_ne l3]; exact w4
      have smI := smH.own (o := .dK (putK (putK kv (Sum.inr "scans") (.ref P0)) (Sum.inr "slips") (.ref tz))) n3
      generalize upd G10 r3 (.dK (putK (putK kv (Sum.inr "scans") (.ref P0)) (Sum.inr "slips") (.ref tz))) = G11 at x1 x2 x3 x4 smI
      clear w1 w2 w3 w4 w5 smG smH s46 ht46 hl16 ln40 dk9 l1 l2 l3 d12 d13 d23 n2 n3 n4 n45 hr1
      rw [ekv, pk_belts] at x1
      rw [ekv, pk_words, pk_stretch] at x2
      rw [ekv, pk_scans, pk_slips] at x3
      have ph := ph9.keep smI
      have phz := phz9.keep smI
      have hb := hb9.same smI
      have tb := tabs_same tb9 smI
      have la := la9.same smI
      have lb1 := lb1.same smI
      have lb2 := lb2.same smI
      have lb3 := lb3.same smI
      have lb4 := lb4.same smI
      have eF := smI _ _ eF
      have eR := smI _ _ eR9
      have eP := smI _ _ eP9
      clear smI ph9 phz9 hb9 tb9 la9 eR9 eP9
      have all : ∀ (j : Nat) (u v : V), ([V.ref y1, .ref y2, .ref y3, .ref y4] : List V)[j]? = some u → ([V.ref D, .ref r1, .ref r2, .ref r3] : List V)[j]? = some v → PairL K C G11 u v := fun j u v hj hj' =>
        match j, hj, hj' with
        | 0, hj, hj' => by
          obtain rfl := Option.some.inj hj
          obtain rfl := Option.some.inj hj'
          exact ⟨y1, D, b, sc, t, wd, r, pl, rfl, rfl, lb1, ph, lok, ok.sort⟩
        | 1, hj, hj' => by
          obtain rfl := Option.some.inj hj
          obtain rfl := Option.some.inj hj'
          exact ⟨y2, r1, R0, sc, t, wd, r, { pl with belts := rms }, rfl, rfl, lb2, ⟨x1, eR, ph.hs, ph.ht, ph.hw, ph.hr⟩, lb2.ok, ok.sort⟩
        | 2, hj, hj' => by
          obtain rfl := Option.some.inj hj
          obtain rfl := Option.some.inj hj'
          exact ⟨y3, r2, b, sc, t, wz, r, { pl with words := pz.words, stretch := pz.stretch }, rfl, rfl, lb3, ⟨x2, ph.hb, ph.hs, ph.ht, phz.hw, ph.hr⟩, lb3.ok, ok.sort⟩
        | 3, hj, hj' => by
          obtain rfl := Option.some.inj hj
          obtain rfl := Option.some.inj hj'
          exact ⟨y4, r3, b, P0, tz, wd, r, { pl with scans := ptsB pl.belts.length, most := pz.most, among := pz.among }, rfl, rfl, lb4, ⟨x3, ph.hb, eP, phz.ht, ph.hw, ph.hr⟩, lb4.ok, ptsB_sort⟩
        | _ + 4, hj, hj' => by cases hj
      clear x1 x2 x3
      refine ⟨_, rfl, _, rfl, F0, l44, _, _, rfl, .inl ⟨SqL.of eF, SqL.of x4, fun D1 hD1 => lc_any (n := 4) (fun i H' => Same G11 H' ∧ H' D1 = some (.lst ((List.replicate i true).map V.bl))) ⟨(Same.refl _).new hD1, upd_same⟩ ?_ ?_⟩⟩
      · intro i H' hix q
        refine ⟨(go_zipL (xs := [V.ref y1, .ref y2, .ref y3, .ref y4]) (ys := [V.ref D, .ref r1, .ref r2, .ref r3]) rfl hix (SqL.of (q.1 _ _ eF)) (SqL.of (q.1 _ _ x4))).1, fun v Hv yv => ?_⟩
        obtain ⟨T0, u, v', rfl, hT0, rfl, hu1, hv1⟩ := (go_zipL (xs := [V.ref y1, .ref y2, .ref y3, .ref y4]) (ys := [V.ref D, .ref r1, .ref r2, .ref r3]) rfl hix (SqL.of (q.1 _ _ eF)) (SqL.of (q.1 _ _ x4))).2 v Hv yv
        have nD : D1 ≠ T0 := L2.ne_of_none q.2 hT0
        refine ⟨T0, _, rfl, .inl (.inl upd_same), rfl, u, [v'], rfl, v', [], rfl, rfl, rfl, ?_⟩
        have sT : Same H' (upd H' T0 (.tup [u, v'])) := (Same.refl _).new hT0
        obtain ⟨z, D', b', s', t', w', r', pl', rfl, rfl, lz, pz', okl, srt⟩ := ((all i u v' hu1 hv1).same q.1).same sT
        refine ⟨_, rfl, _, rfl, D', b', s', t', w', r', pl', rfl, pz', okl, fun x3 G ss _ s3 pm sr l3 => ?_⟩
        obtain rfl : ss = pl'.scans := sort_eq pm sr srt
        have lz3 := lz.same s3
        obtain ⟨⟨dxz, _, _, _, _, hxz, _⟩, _⟩ := id lz3
        obtain ⟨⟨dx3, _, _, _, _, hx3, _⟩, _⟩ := id l3
        refine ⟨z, dxz, _, .ref C, rfl, hxz, .base (.ins hx3 T.cl TC.ha TC.hn TC.htk TC.hm), L.nfC, z, _, .ref x3, rfl, lz3, .inl ⟨x3, _, rfl, l3, ⟨_, rfl⟩, ?_⟩⟩
        rw [eqLn_refl]
        refine ⟨_, s3 _ _ (sT _ _ q.2), ?_, (((q.1).trans sT).trans s3).own hD1, ?_⟩
        · rw [List.length_map, List.length_replicate]
          exact Nat.lt_of_lt_of_le hix (by decide)
        · rw [upd_same, List.replicate_succ', List.map_append]
          rfl
      · intro H' q
        refine ⟨⟨_, _, SqL.of (q.1 _ _ eF), SqL.of (q.1 _ _ x4), .inl (Nat.le_refl _)⟩, ?_⟩
        refine ⟨by show 1 ≤ sizeLine; decide, fun l1 n1 => ⟨l1, 4, _, rfl, rfl, upd_same, by decide, by decide, by show 4 ≤ sizeLine; decide, fun l2 n2 => ?_⟩⟩
        have s1 : Same H' (upd H' l1 (.lst [.bl true])) := (Same.refl _).new n1
        have s2 := s1.new (o := .lst (List.replicate (4 : Int).toNat [V.bl true]).flatten) n2
        have e2 : upd (upd H' l1 (.lst [.bl true])) l2 (.lst (List.replicate (4 : Int).toNat [V.bl true]).flatten) l2 = some (.lst ((List.replicate 4 true).map V.bl)) := upd_same
        refine ⟨.ref D1, .ref l2, .list (boolD (List.replicate 4 true)), 4, rfl, .lst (SqL.of (s2 _ _ q.2)) (dpB _), .lst (SqL.of e2) (dpB _), rfl, .lst shB (by decide), fun G sG => ⟨_, rfl, iteF ?_⟩⟩
        have sA := (q.1.trans s2).trans sG
        have ph := ph.keep sA
        have phz := phz.keep sA
        have hb := hb.same sA
        have tb := tabs_same tb sA
        have la := la.same sA
        have lb2 := lb2.same sA
        have lb3 := lb3.same sA
        have eF := sA _ _ eF
        have eR := sA _ _ eR
        clear sA s1 s2 sG e2 n1 n2 all x4 lb1 lb4 q hD1 eP
        -- made != made_line(plan) or found[1].belts() != rooms_z
        refine ⟨_, rfl, _, rfl, D, b, sc, t, wd, r, pl, rfl, ph, ok.line, fun x3 N1 ss _ s3 pm sr l3 => ?_⟩
        obtain rfl : ss = pl.scans := sort_eq pm sr ok.sort
        have la3 := la.same s3
        obtain ⟨⟨dx, t1, tS, tP', tW, hx, _⟩, _⟩ := id la3
        obtain ⟨⟨dx3, _, _, _, _, hx3, _⟩, _⟩ := id l3
        refine ⟨x, dx, _, .ref C, rfl, hx, .base (.ins hx3 T.cl TC.ha TC.hn TC.htk TC.hm), L.nfC, x, _, .ref x3, rfl, la3, .inl ⟨x3, _, rfl, l3, _, rfl, ?_⟩⟩
        rw [eqLn_refl]
        refine ⟨_, rfl, iteF ?_⟩
        obtain ⟨⟨dy2, u1, _, _, _, hy2, hu1, _⟩, _⟩ := id (lb2.same s3)
        refine ⟨_, rfl, F0, _, _, _, rfl, rfl, SqL.of (s3 _ _ eF), rfl, y2, dy2, _, rfl, hy2, rfl, y2, dy2, _, u1, rms.map V.int, rfl, hy2, rfl, hu1, fun l5 n5 => ⟨_, rfl, ?_⟩⟩
        have s5 : Same N1 (upd N1 l5 (.lst (rms.map V.int))) := (Same.refl _).new n5
        refine ⟨_, _, dLI (ns := rms) upd_same, dLI (s5 _ _ (s3 _ _ eR)), shpLI (by omega), shpLI (by omega), _, rfl, ?_⟩
        rw [eqLI, decide_eq_true rfl]
        refine iteF ?_
        have sB := s3.trans s5
        generalize upd N1 l5 (.lst (rms.map V.int)) = N2 at sB s5
        -- found[2].stretch != other['stretch'] or not alone_so(..)
        have phN := ph.keep sB
        have phzN := phz.keep sB
        have hbN := hb.same sB
        have tbN := tabs_same tb sB
        have la := la.same sB
        obtain ⟨⟨dy3, _, _, _, _, hy3, _⟩, _⟩ := id (lb3.same sB)
        refine ⟨_, rfl, F0, _, _, _, rfl, rfl, SqL.of (sB _ _ eF), rfl, y3, dy3, _, rfl, hy3, y3, dy3, _, optV pz.stretch, rfl, hy3, rfl, _, rfl, Dz, _, rfl, dget_some phzN.dk (planK_x ..), _, _, dpO _, dpO _, shpO _, shpO _, _, rfl, ?_⟩
        rw [eqOI, decide_eq_true rfl]
        refine iteF ⟨_, rfl, _, rfl, x, D, b, sc, t, wd, r, pl, rfl, phN, ok, la, fun N3 sN3 => ⟨_, rfl, iteF ?_⟩⟩
        have hbN := hbN.same sN3
        have tbN := tabs_same tbN sN3
        have la := la.same sN3
        clear phN phzN sN3 sB s5 n5 hy3 hy2 hu1 s3 la3 l3 hx3 hx lb2 lb3 eF eR ph phz hb tb pm sr
        -- asks
        have px : ∀ {N : List Str} {F : NF} {g : Addr} {A : Around} {outer : List Env} {s : Shared} {H : Hp} {E : XK}, Passes (L2.CX P w) (ncx (L2.CX P w) P w K mg base N F g A outer s H E) E := passes_call (takes_of rfl rfl rfl rfl) (fun _ _ _ _ h => h)
        refine ⟨tbN, fun f1 k1 E1 e1 n1 t1 z1 hl1 hc1 => ?_⟩
        refine ⟨t1, fun f2 k2 E2 e2 n2 t2 z2 hl2 hc2 => ?_⟩
        refine ⟨t2, fun f3 k3 E3 e3 n3 t3 z3 hl3 hc3 => ?_⟩
        refine ⟨t3, fun f4 k4 E4 e4 n4 t4 z4 hl4 hc4 => ?_⟩
        refine ⟨t4, fun f5 k5 E5 e5 n5 t5 z5 hl5 hc5 => ?_⟩
        have en5 : ExtN E5 E5 := ExtN.refl _
        have en4 : ExtN E4 E5 := e5.trans en5
        have en3 : ExtN E3 E5 := e4.trans en4
        have en2 : ExtN E2 E5 := e3.trans en3
        have en1 : ExtN E1 E5 := e2.trans en2
        have en0 : ExtN N3 E5 := e1.trans en1
        have hl1 := en1 _ _ hl1 (fun ps => lamO_ne ps)
        have hc1 := en1 _ _ hc1 (fun ps => codeO_ne ps)
        have hl2 := en2 _ _ hl2 (fun ps => lamO_ne ps)
        have hc2 := en2 _ _ hc2 (fun ps => codeO_ne ps)
        have hl3 := en3 _ _ hl3 (fun ps => lamO_ne ps)
        have hc3 := en3 _ _ hc3 (fun ps => codeO_ne ps)
        have hl4 := en4 _ _ hl4 (fun ps => lamO_ne ps)
        have hc4 := en4 _ _ hc4 (fun ps => codeO_ne ps)
        have hl5 := en5 _ _ hl5 (fun ps => lamO_ne ps)
        have hc5 := en5 _ _ hc5 (fun ps => codeO_ne ps)
        have hbT := extN_bag hbN en0
        have la := lnAt_ext la en0
        refine ⟨by show 5 ≤ sizeLine; decide, fun lq hlq => ?_⟩
        have smA : Same E5 (upd E5 lq (.lst [.ref f1, .ref f2, .ref f3, .ref f4, .ref f5])) := (Same.refl _).new hlq
        have ea : upd E5 lq (.lst [.ref f1, .ref f2, .ref f3, .ref f4, .ref f5]) lq = some (.lst [.ref f1, .ref f2, .ref f3, .ref f4, .ref f5]) := upd_same
        have hl1 := smA _ _ hl1
        have hc1 := smA _ _ hc1
        have hl2 := smA _ _ hl2
        have hc2 := smA _ _ hc2
        have hl3 := smA _ _ hl3
        have hc3 := smA _ _ hc3
        have hl4 := smA _ _ hl4
        have hc4 := smA _ _ hc4
        have hl5 := smA _ _ hl5
        have hc5 := smA _ _ hc5
        have tbX := tabs_same t5 smA
        have hbX := hbT.same smA
        have la := la.same smA
        generalize upd E5 lq (.lst [.ref f1, .ref f2, .ref f3, .ref f4, .ref f5]) = M0 at ea hl1 hc1 hl2 hc2 hl3 hc3 hl4 hc4 hl5 hc5 tbX hbX la
        clear en0 en1 en2 en3 en4 en5 smA hbT t1 t2 t3 t4 t5
        have sD : Same M0 M0 := Same.refl _
        refine ⟨by show 1 ≤ sizeLine; decide, fun a1 ha1 => ⟨by show 2 ≤ sizeLine; decide, fun b1 hbb1 => ?_⟩⟩
        have smQ : Same M0 (upd (upd M0 a1 (.tup [(.str "rooms")])) b1 (.tup [.str "InvalidField", .ref a1])) := ((Same.refl _).new ha1).new hbb1
        have q1 : Dp K (upd (upd M0 a1 (.tup [(.str "rooms")])) b1 (.tup [.str "InvalidField", .ref a1])) (.ref b1) (dueD ("InvalidField", .str "rooms")) := .tup (SqT.of upd_same) (.cons (.str _) (.cons (.tup (SqT.of (by rw [upd_ne (L2.ne_of_none upd_same hbb1)]; exact upd_same)) (.cons (.str _) .nil)) .nil))
        have sD := sD.trans smQ
        generalize hG : upd (upd M0 a1 (.tup [(.str "rooms")])) b1 (.tup [.str "InvalidField", .ref a1]) = M1 at smQ sD q1
        clear hG smQ
        refine ⟨by show 1 ≤ sizeLine; decide, fun a2 ha2 => ⟨by show 2 ≤ sizeLine; decide, fun b2 hbb2 => ?_⟩⟩
        have smQ : Same M1 (upd (upd M1 a2 (.tup [(.str "seek")])) b2 (.tup [.str "InvalidField", .ref a2])) := ((Same.refl _).new ha2).new hbb2
        have q2 : Dp K (upd (upd M1 a2 (.tup [(.str "seek")])) b2 (.tup [.str "InvalidField", .ref a2])) (.ref b2) (dueD ("InvalidField", .str "seek")) := .tup (SqT.of upd_same) (.cons (.str _) (.cons (.tup (SqT.of (by rw [upd_ne (L2.ne_of_none upd_same hbb2)]; exact upd_same)) (.cons (.str _) .nil)) .nil))
        have q1 := dp_same smQ _ _ q1
        have sD := sD.trans smQ
        generalize hG : upd (upd M1 a2 (.tup [(.str "seek")])) b2 (.tup [.str "InvalidField", .ref a2]) = M2 at smQ sD q1 q2
        clear hG smQ
        refine ⟨by show 1 ≤ sizeLine; decide, fun a3 ha3 => ⟨by show 2 ≤ sizeLine; decide, fun b3 hbb3 => ?_⟩⟩
        have smQ : Same M2 (upd (upd M2 a3 (.tup [(.int 0)])) b3 (.tup [.str "WrongCount", .ref a3])) := ((Same.refl _).new ha3).new hbb3
        have q3 : Dp K (upd (upd M2 a3 (.tup [(.int 0)])) b3 (.tup [.str "WrongCount", .ref a3])) (.ref b3) (dueD ("WrongCount", .int 0)) := .tup (SqT.of upd_same) (.cons (.str _) (.cons (.tup (SqT.of (by rw [upd_ne (L2.ne_of_none upd_same hbb3)]; exact upd_same)) (.cons (.int _) .nil)) .nil))
        have q1 := dp_same smQ _ _ q1
        have q2 := dp_same smQ _ _ q2
        have sD := sD.trans smQ
        generalize hG : upd (upd M2 a3 (.tup [(.int 0)])) b3 (.tup [.str "WrongCount", .ref a3]) = M3 at smQ sD q1 q2 q3
        clear hG smQ
        refine ⟨_, rfl, by show 1 ≤ sizeLine; decide, fun a4 ha4 => ⟨by show 2 ≤ sizeLine; decide, fun b4 hbb4 => ?_⟩⟩
        have smQ : Same M3 (upd (upd M3 a4 (.tup [(.int ((pl.belts.length : Nat) : Int))])) b4 (.tup [.str "InvalidPoint", .ref a4])) := ((Same.refl _).new ha4).new hbb4
        have q4 : Dp K (upd (upd M3 a4 (.tup [(.int ((pl.belts.length : Nat) : Int))])) b4 (.tup [.str "InvalidPoint", .ref a4])) (.ref b4) (dueD ("InvalidPoint", .int ((pl.belts.length : Nat) : Int))) := .tup (SqT.of upd_same) (.cons (.str _) (.cons (.tup (SqT.of (by rw [upd_ne (L2.ne_of_none upd_same hbb4)]; exact upd_same)) (.cons (.int _) .nil)) .nil))
        have q1 := dp_same smQ _ _ q1
        have q2 := dp_same smQ _ _ q2
        have q3 := dp_same smQ _ _ q3
        have sD := sD.trans smQ
        generalize hG : upd (upd M3 a4 (.tup [(.int ((pl.belts.length : Nat) : Int))])) b4 (.tup [.str "InvalidPoint", .ref a4]) = M4 at smQ sD q1 q2 q3 q4
        clear hG smQ
        refine ⟨by show 1 ≤ sizeLine; decide, fun a5 ha5 => ⟨by show 2 ≤ sizeLine; decide, fun b5 hbb5 => ?_⟩⟩
        have smQ : Same M4 (upd (upd M4 a5 (.tup [(.str "x")])) b5 (.tup [.str "InvalidWord", .ref a5])) := ((Same.refl _).new ha5).new hbb5
        have q5 : Dp K (upd (upd M4 a5 (.tup [(.str "x")])) b5 (.tup [.str "InvalidWord", .ref a5])) (.ref b5) (dueD ("InvalidWord", .str "x")) := .tup (SqT.of upd_same) (.cons (.str _) (.cons (.tup (SqT.of (by rw [upd_ne (L2.ne_of_none upd_same hbb5)]; exact upd_same)) (.cons (.str _) .nil)) .nil))
        have q1 := dp_same smQ _ _ q1
        have q2 := dp_same smQ _ _ q2
        have q3 := dp_same smQ _ _ q3
        have q4 := dp_same smQ _ _ q4
        have sD := sD.trans smQ
        generalize hG : upd (upd M4 a5 (.tup [(.str "x")])) b5 (.tup [.str "InvalidWord", .ref a5]) = M5 at smQ sD q1 q2 q3 q4 q5
        clear hG smQ
        refine ⟨by show 5 ≤ sizeLine; decide, fun ld hld => ?_⟩
        have smQ : Same M5 (upd M5 ld (.lst [.ref b1, .ref b2, .ref b3, .ref b4, .ref b5])) := (Same.refl _).new hld
        have eld : upd M5 ld (.lst [.ref b1, .ref b2, .ref b3, .ref b4, .ref b5]) ld = some (.lst [.ref b1, .ref b2, .ref b3, .ref b4, .ref b5]) := upd_same
        have qA : DpAll K (upd M5 ld (.lst [.ref b1, .ref b2, .ref b3, .ref b4, .ref b5])) [.ref b1, .ref b2, .ref b3, .ref b4, .ref b5] _ := (.cons (dp_same smQ _ _ q1) (.cons (dp_same smQ _ _ q2) (.cons (dp_same smQ _ _ q3) (.cons (dp_same smQ _ _ q4) (.cons (dp_same smQ _ _ q5) .nil)))))
        have sD := sD.trans smQ
        generalize upd M5 ld (.lst [.ref b1, .ref b2, .ref b3, .ref b4, .ref b5]) = M6 at sD eld qA
        clear smQ q1 q2 q3 q4 q5
        have hl1 := sD _ _ hl1
        have hc1 := sD _ _ hc1
        have hl2 := sD _ _ hl2
        have hc2 := sD _ _ hc2
        have hl3 := sD _ _ hl3
        have hc3 := sD _ _ hc3
        have hl4 := sD _ _ hl4
        have hc4 := sD _ _ hc4
        have hl5 := sD _ _ hl5
        have hc5 := sD _ _ hc5
        have ea := sD _ _ ea
        have tbX := tabs_same tbX sD
        have hbX := hbX.same sD
        have la := la.same sD
        refine ⟨_, rfl, fun S hS cs => ?_⟩
        have W1 : WillRaise P w K mg base cB cM cZ (trk S M6) f1 "InvalidField" (.str "rooms") := will_of (fr := ["_law_made"]) (js := [5]) hS cs hl1 hc1 (lamS_by (show lamSB (defScope sLaw) _ = true from by decide +kernel)).free (by decide +kernel) rfl (nscope_by (by decide +kernel)) (fun _ _ _ _ _ => rfl)
          (fun A outer s H E hr => pe_methKw T.cl mCh (ch_rb Ic L.ch) (hr.mono (by decide)) Ic.kp px (pv 0) (pk_cons (pe_lst (pa_cons pe_int pa_nil)) (pk_cons (pe_lst pa_nil) pk_nil)))
          (fun H0 sm E Q k => by
            obtain ⟨⟨dx, t1, tS, tP0, tW, hx, _⟩, lok⟩ := id (la.same sm)
            refine ⟨_, rfl, x, dx, _, rfl, hx, rfl, by show 1 ≤ sizeLine; decide, fun l1 nl1 => ⟨by show 0 ≤ sizeLine; decide, fun l2 nl2 => ⟨rfl, fun p np => ?_⟩⟩⟩
            have sz : Same H0 (upd (upd H0 l1 (.lst [.int 1])) l2 (.lst [])) := ((Same.refl _).new nl1).new nl2
            exact ⟨x, p, dx, t1, tS, tW, .ref tP0, optV pl.stretch, [("rooms", .ref l1), ("belts", .ref l2)], rfl, (sz.new np) _ _ hx, upd_same, .inl ⟨"rooms", badKey_hit (by decide +kernel), fun dd H' eo => k cF dd _ H' (errB_out sz np eo) L.tellF⟩⟩)
        have W2 : WillRaise P w K mg base cB cM cZ (trk S M6) f2 "InvalidField" (.str "seek") := will_of (fr := ["_law_made"]) (js := [5]) hS cs hl2 hc2 (lamS_by (show lamSB (defScope sLaw) _ = true from by decide +kernel)).free (by decide +kernel) rfl (nscope_by (by decide +kernel)) (fun _ _ _ _ _ => rfl)
          (fun A outer s H E hr => pe_methKw T.cl mCh (ch_pk Ic L.ch) (hr.mono (by decide)) Ic.kp px (pv 0) (pk_cons pe_non (pk_cons pe_int pk_nil)))
          (fun H0 sm E Q k => by
            obtain ⟨⟨dx, t1, tS, tP0, tW, hx, _⟩, lok⟩ := id (la.same sm)
            refine ⟨_, rfl, x, dx, _, rfl, hx, rfl, rfl, fun p np => ?_⟩
            exact ⟨x, p, dx, t1, tS, tW, .ref tP0, optV pl.stretch, [("slips", .non), ("seek", .int 1)], rfl, ((Same.refl _).new np) _ _ hx, upd_same, .inl ⟨"seek", badKey_hit2 (by decide +kernel) (by decide +kernel), fun dd H' eo => k cF dd _ H' (errB_out (Same.refl _) np eo) L.tellF⟩⟩)
        have W3 : WillRaise P w K mg base cB cM cZ (trk S M6) f3 "WrongCount" (.int 0) := will_of (fr := ["_law_made"]) (js := [5]) hS cs hl3 hc3 (lamS_by (show lamSB (defScope sLaw) _ = true from by decide +kernel)).free (by decide +kernel) rfl (nscope_by (by decide +kernel)) (fun _ _ _ _ _ => rfl)
          (fun A outer s H E hr => pe_methKw T.cl mCh (ch_belts Ic L.ch) (hr.mono (by decide)) Ic.kp px (pv 0) (pk_cons (pe_lst pa_nil) pk_nil))
          (fun H0 sm E Q k => by
            obtain ⟨⟨dx, t1, tS, tP0, tW, hx, _⟩, lok⟩ := id (la.same sm)
            refine ⟨_, rfl, x, dx, _, rfl, hx, rfl, by show 0 ≤ sizeLine; decide, fun l1 nl1 => ⟨rfl, fun p np => ?_⟩⟩
            have sz : Same H0 (upd H0 l1 (.lst [])) := (Same.refl _).new nl1
            exact ch_bad (kw := [("belts", .ref l1)]) (n := 0) (d := .int 0) (ds := []) ((la.same sm).same sz) np (badKey_1 (by decide +kernel)) (.inr ⟨l1, [], fun _ => fv_hit, .inr (SqL.of upd_same), .nil, Nat.zero_le _, (fun d hd => nomatch hd)⟩) (.inl ⟨rfl, fun _ => fv_miss (by decide +kernel)⟩) (.inl ⟨rfl, fun _ => fv_miss (by decide +kernel)⟩) (.inl ⟨rfl, fun _ => fv_miss (by decide +kernel)⟩) (.inl ⟨rfl, fun _ => fv_miss (by decide +kernel)⟩) (lnErr_n (by decide)) (fun dd H' eo => k (cA 0) dd _ H' (eo.pre sz) (L.tell 0 (by decide))))
        have W4 : WillRaise P w K mg base cB cM cZ (trk S M6) f4 "InvalidPoint" (.int ((pl.belts.length : Nat) : Int)) := will_of (fr := ["_law_made", "_law_many"]) (js := [5, 6]) hS cs hl4 hc4 (lamS_by (show lamSB (defScope sLaw) _ = true from by decide +kernel)).free (by decide +kernel) rfl (nscope_by (by decide +kernel)) (fun _ _ _ _ _ => rfl)
          (fun A outer s H E hr => pe_methKw T.cl mCh (ch_sp Ic L.ch) (hr.mono (by decide)) Ic.kp px (pv 0) (pk_cons (pe_lst (pa_cons (pv 1) pa_nil)) (pk_cons pe_int pk_nil)))
          (fun H0 sm E Q k => by
            obtain ⟨⟨dx, t1, tS, tP0, tW, hx, _⟩, lok⟩ := id (la.same sm)
            refine ⟨_, rfl, x, dx, _, rfl, hx, rfl, _, rfl, by show 1 ≤ sizeLine; decide, fun l1 nl1 => ⟨rfl, fun p np => ?_⟩⟩
            have sz : Same H0 (upd H0 l1 (.lst [.int ((pl.belts.length : Nat) : Int)])) := (Same.refl _).new nl1
            exact ch_bad (kw := [("scans", .ref l1), ("slips", .int 0)]) (n := 3) (d := .int ((pl.belts.length : Nat) : Int)) (ds := intD pl.belts) (dS := [.int ((pl.belts.length : Nat) : Int)]) ((la.same sm).same sz) np (badKey_2 (by decide +kernel) (by decide +kernel)) (.inl ⟨rfl, fun _ => (fv_miss (by decide +kernel)).trans (fv_miss (by decide +kernel))⟩) (.inr ⟨l1, [.int ((pl.belts.length : Nat) : Int)], fun _ => fv_hit, .inl (SqL.of upd_same), .cons (.int _) .nil, (by show 1 ≤ sizeLine; decide), (fun d hd => by rw [List.mem_singleton.mp hd]; exact .int _)⟩) (.inr ⟨.int 0, fun _ => (fv_miss (by decide +kernel)).trans fv_hit, .int 0, .int _⟩) (.inl ⟨rfl, fun _ => (fv_miss (by decide +kernel)).trans (fv_miss (by decide +kernel))⟩) (.inl ⟨rfl, fun _ => (fv_miss (by decide +kernel)).trans (fv_miss (by decide +kernel))⟩) (lnErr_s (by unfold intD; rw [List.length_map]; exact ⟨nb1, nb3⟩) (firstBad_ok lok.bl) (by unfold intD; rw [List.length_map]; exact scan_end)) (fun dd H' eo => k (cA 3) dd _ H' (eo.pre sz) (L.tell 3 (by decide))))
        have W5 : WillRaise P w K mg base cB cM cZ (trk S M6) f5 "InvalidWord" (.str "x") := will_of (fr := ["_law_made"]) (js := [5]) hS cs hl5 hc5 (lamS_by (show lamSB (defScope sLaw) _ = true from by decide +kernel)).free (by decide +kernel) rfl (nscope_by (by decide +kernel)) (fun _ _ _ _ _ => rfl)
          (fun A outer s H E hr => pe_methKw T.cl mCh (ch_tw Ic L.ch) (hr.mono (by decide)) Ic.kp px (pv 0) (pk_cons pe_int (pk_cons (pe_lst (pa_cons pe_str pa_nil)) pk_nil)))
          (fun H0 sm E Q k => by
            obtain ⟨⟨dx, t1, tS, tP0, tW, hx, _⟩, lok⟩ := id (la.same sm)
            refine ⟨_, rfl, x, dx, _, rfl, hx, rfl, by show 1 ≤ sizeLine; decide, fun l1 nl1 => ⟨rfl, fun p np => ?_⟩⟩
            have sz : Same H0 (upd H0 l1 (.lst [.str "x"])) := (Same.refl _).new nl1
            have g := lnErr_good lok
            exact ch_bad (kw := [("stretch", .int 0), ("words", .ref l1)]) (n := 2) (d := .str "x") (ds := intD pl.belts) (dW := [.str "x"]) ((la.same sm).same sz) np (badKey_2 (by decide +kernel) (by decide +kernel)) (.inl ⟨rfl, fun _ => (fv_miss (by decide +kernel)).trans (fv_miss (by decide +kernel))⟩) (.inl ⟨rfl, fun _ => (fv_miss (by decide +kernel)).trans (fv_miss (by decide +kernel))⟩) (.inl ⟨rfl, fun _ => (fv_miss (by decide +kernel)).trans (fv_miss (by decide +kernel))⟩) (.inr ⟨l1, [.str "x"], fun _ => (fv_miss (by decide +kernel)).trans fv_hit, .inl (SqL.of upd_same), .cons (.str _) .nil, (fun d hd => by rw [List.mem_singleton.mp hd]; exact ⟨.str _, fun es z => nomatch z⟩)⟩) (.inr ⟨.int 0, fun _ => fv_hit, .int 0, .int _⟩) (lnErr_w (by unfold intD; rw [List.length_map]; exact ⟨nb1, nb3⟩) (firstBad_ok lok.bl) (by unfold intD; rw [List.length_map]; exact scans_ok lok) (slips_ok lok) (by rw [badWord_cons, if_neg (by decide +kernel)])) (fun dd H' eo => k (cA 2) dd _ H' (eo.pre sz) (L.tell 2 (by decide))))
        have sla : trk S M6 lq = some (.lst (([f1, f2, f3, f4, f5] : List Addr).map V.ref)) := by
          have e : S lq = none := by
            cases e : S lq with
            | none => rfl
            | some o => have z := hS lq o e; rw [ea] at z; cases z
          rw [trk_out e]
          exact ea
        refine ⟨lq, [f1, f2, f3, f4, f5], [("InvalidField", .str "rooms"), ("InvalidField", .str "seek"), ("WrongCount", .int 0), ("InvalidPoint", .int ((pl.belts.length : Nat) : Int)), ("InvalidWord", .str "x")], rfl, SqL.of sla, Nat.le_of_ble_eq_true rfl, rfl, fun i g q hg hq => ?_, fun H' D sm hD => ⟨trk_tracked.same sm, ?_⟩⟩
        · match i, hg, hq with
          | 0, hg, hq => obtain rfl := Option.some.inj hg; obtain rfl := Option.some.inj hq; exact W1
          | 1, hg, hq => obtain rfl := Option.some.inj hg; obtain rfl := Option.some.inj hq; exact W2
          | 2, hg, hq => obtain rfl := Option.some.inj hg; obtain rfl := Option.some.inj hq; exact W3
          | 3, hg, hq => obtain rfl := Option.some.inj hg; obtain rfl := Option.some.inj hq; exact W4
          | 4, hg, hq => obtain rfl := Option.some.inj hg; obtain rfl := Option.some.inj hq; exact W5
          | _ + 5, hg, hq => cases hg
        · have smU := utrk_same hS sm
          have hDU := dp_seqs (utrk_seqs (trk_tracked.same sm)) _ _ hD
          generalize utrk S H' = MU at smU hDU
          have hbU := hbX.same smU
          have tbU := tabs_same tbX smU
          have qB : Dp K MU (.ref ld) (.list (([("InvalidField", .str "rooms"), ("InvalidField", .str "seek"), ("WrongCount", .int 0), ("InvalidPoint", .int ((pl.belts.length : Nat) : Int)), ("InvalidWord", .str "x")] : List (Str × PyData)).map dueD)) := .lst (SqL.of (smU _ _ eld)) (dpAll_same smU _ _ qA)
          refine ⟨_, rfl, .ref D, .ref ld, _, 4, rfl, hDU, qB, rfl, ?_, fun MV sV => ?_⟩
          · refine .lst (fun d hd => ?_) (Nat.le_of_ble_eq_true rfl)
            obtain ⟨q, hq, rfl⟩ := List.mem_map.mp hd
            have hq1 : Shal 1 q.2 := by
              simp only [List.mem_cons, List.not_mem_nil, or_false] at hq
              rcases hq with rfl | rfl | rfl | rfl | rfl
              · exact .str _
              · exact .str _
              · exact .int _
              · exact .int _
              · exact .str _
            refine .tup (fun d hd => ?_) (Nat.le_of_ble_eq_true rfl)
            simp only [List.mem_cons, List.not_mem_nil, or_false] at hd
            rcases hd with rfl | rfl
            · exact .str _
            · exact .tup (fun d hd => by rw [List.mem_singleton.mp hd]; exact hq1) (Nat.le_of_ble_eq_true rfl)
          · clear W1 W2 W3 W4 W5 hl1 hc1 hl2 hc2 hl3 hc3 hl4 hc4 hl5 hc5 hDU qB qA px
            exact ⟨_, rfl, iteF ⟨_, _, _, _, _, _, _, _, _, _, _, _, _, _, rfl, hbU.same sV, tabs_same tbU sV⟩⟩

    · rintro σ H2 ⟨v2, v3, v4, v5, v6, v7, v8, v9, v10, v11, v12, v13, v14, v15, rfl, _⟩
      exact k _
end
end Own

namespace Own
open PySem L2 ClX PySem.HandSPX LamX NdefX

/-- a class as the top has made it: its chain, its __init__ -/
structure ClsF (K : PySem.W.Frag) (C f : Addr) (newId : String) (bmB : List Value) (attr : Str) : Prop where
  ei : PySem.W.excInitIn K C bmB newId = true
  ov : PySem.W.excOver K C bmB = true
  sa : PySem.W.findIn K (.ref C) "__setattr__" = some (some (.builtin "object.__setattr__"))
  ga : PySem.W.findIn K (.ref C) "__getattribute__" = some (some (.builtin "BaseException.__getattribute__"))
  gg : PySem.W.findIn K (.ref C) "__getattr__" = some none
  exC : PySem.W.subIn K (.ref C) (.type "BaseException") = some true
  tyC : PySem.W.typeIn K (.ref C) = some (.type "type")
  kC : PySem.W.keepIn K (.ref C) = true
  hd : PySem.W.hasDictIn K C = true
  cc : PySem.W.findIn K (.ref C) "__class__" = some (some (.builtin "object.__class__"))
  gn : PySem.W.specialIn K (.builtin "object.__class__") "__get__" = some (some (.builtin "getset_descriptor.__get__"))
  tk : PySem.W.takesIn K (.builtin "object.__class__") = some true
  mo : PySem.W.mroIn K C (.type "object") = some true
  n1 : PySem.W.findIn K (.ref C) "code" = some none
  n2 : PySem.W.findIn K (.ref C) attr = some none
  ic : PySem.W.findIn K (.ref C) "__init__" = some (some (.ref f))
  ti : PySem.W.typeIn K (.ref f) = some (.type "function")
  se : PySem.W.subIn K (.ref C) (.ref C) = some true
structure BasF (K : PySem.W.Frag) (C : Addr) : Prop where
  tyC : PySem.W.typeIn K (.ref C) = some (.type "type")
  hd : PySem.W.hasDictIn K C = true
  se : PySem.W.subIn K (.ref C) (.ref C) = some true
theorem ClsF.bas {K : PySem.W.Frag} {C f : Addr} {newId : String} {bmB : List Value} {attr : Str} (F : ClsF K C f newId bmB attr) : BasF K C := ⟨F.tyC, F.hd, F.se⟩
theorem ClsF.T {K : PySem.W.Frag} {C f : Addr} {B newId initId : String} {bmB : List Value} {attr : Str} (F : ClsF K C f newId bmB attr) (h1 : ExcBaseFacts B newId initId bmB) (h2 : StoreFacts B bmB "object.__setattr__" "object") : ExK K C := ⟨⟨B, newId, initId, bmB, h1, h2, F.ei, F.ov⟩, F.sa, F.ga, F.gg, F.exC, F.tyC, F.kC, F.hd⟩
theorem ClsF.TI {K : PySem.W.Frag} {C f : Addr} {newId : String} {bmB : List Value} {attr : Str} (F : ClsF K C f newId bmB attr) : ExI K C := ⟨F.cc, F.gn, F.tk, F.mo⟩

theorem kit_own {K : PySem.W.Frag} {C D : Addr} {b : Bool} (B : BasF K D) (hs : PySem.W.subIn K (.ref C) (.ref D) = some b) : PySem.W.kitOne K (.ref C) (.ref D) = some b := by
  unfold PySem.W.kitOne
  by_cases e : (Value.ref C == Value.ref D) = true
  · obtain rfl : C = D := by
      have z := eq_of_beq e
      injection z
    rw [if_pos e, ← hs]
    exact B.se.symm
  · rw [if_neg e]
    obtain ⟨cd, hc, _⟩ := PySem.W.any_some B.hd
    have q : ((PySem.W.clsIn K D).isSome && PySem.W.typeIn K (.ref D) == some (.type "type")) = true := by
      rw [hc, B.tyC]; rfl
    show (if ((PySem.W.clsIn K D).isSome && PySem.W.typeIn K (.ref D) == some (.type "type")) = true then PySem.W.subIn K (.ref C) (.ref D) else none) = some b
    rw [if_pos q]
    exact hs
theorem kit_to {K : PySem.W.Frag} {D : Addr} {t : Value} {b : Bool} (B : BasF K D) (hn : (t == Value.ref D) = false) (hs : PySem.W.subIn K t (.ref D) = some b) : PySem.W.kitOne K t (.ref D) = some b := by
  unfold PySem.W.kitOne
  rw [if_neg (by rw [hn]; exact Bool.false_ne_true)]
  obtain ⟨cd, hc, _⟩ := PySem.W.any_some B.hd
  have q : ((PySem.W.clsIn K D).isSome && PySem.W.typeIn K (.ref D) == some (.type "type")) = true := by
    rw [hc, B.tyC]; rfl
  show (if ((PySem.W.clsIn K D).isSome && PySem.W.typeIn K (.ref D) == some (.type "type")) = true then PySem.W.subIn K t (.ref D) else none) = some b
  rw [if_pos q]
  exact hs
section
variable {K : PySem.W.Frag}
def LnE (K : PySem.W.Frag) (f a0 a1 a2 : Addr) : Prop := ∃ (oc : Value) (od : Option Addr) (D : Addr) (doc pm : Value) (an : Option Addr) (cdv ct : Value) (osl : Array (Option Value)), K.lookup f = some ⟨oc, od, .func (PySem.W.fnOf "__init__" "Line.__init__" (defArgs sLI) (defBody sLI) (defScope sLI) .none (.ref D) doc pm an cdv ct), osl⟩ ∧ PySem.W.codeIn K cdv "Line.__init__" = true ∧
    PySem.W.nsIn K D "scans" = some (some (.ref a0)) ∧ PySem.W.nsIn K D "slips" = some (some (.ref a1)) ∧ PySem.W.nsIn K D "words" = some (some (.ref a2)) ∧ PySem.W.nsIn K D "stretch" = some (some .none)
theorem lnE_mk {f D a0 a1 a2 : Addr} {oc : Value} {od an : Option Addr} {doc pm cdv ct : Value} {osl : Array (Option Value)} (h : K.lookup f = some ⟨oc, od, .func (PySem.W.fnOf "__init__" "Line.__init__" (defArgs sLI) (defBody sLI) (defScope sLI) .none (.ref D) doc pm an cdv ct), osl⟩) (hc : PySem.W.codeIn K cdv "Line.__init__" = true)
    (d1 : PySem.W.nsIn K D "scans" = some (some (.ref a0))) (d2 : PySem.W.nsIn K D "slips" = some (some (.ref a1))) (d3 : PySem.W.nsIn K D "words" = some (some (.ref a2))) (d4 : PySem.W.nsIn K D "stretch" = some (some .none)) : LnE K f a0 a1 a2 :=
  ⟨oc, od, D, doc, pm, an, cdv, ct, osl, h, hc, d1, d2, d3, d4⟩
theorem kt0 {t : Addr} {od : Option Addr} {n : Nat} {osl : Array (Option Value)} (h : K.lookup t = some ⟨.type "tuple", od, .seq #[] n, osl⟩) : KT K t [] := ⟨_, _, n, h, rfl, rfl, by show 0 ≤ sizeLine; decide, .nil⟩
theorem ktI {t : Addr} {od : Option Addr} {n : Nat} {osl : Array (Option Value)} {a b : Int} {ta tb : Tok} (h : K.lookup t = some ⟨.type "tuple", od, .seq #[.int a ta, .int b tb] n, osl⟩) : KT K t [.int a, .int b] :=
  ⟨_, _, n, h, rfl, rfl, by show 2 ≤ sizeLine; decide, .cons ⟨ta, rfl⟩ (.cons ⟨tb, rfl⟩ .nil)⟩
theorem kt3 {t : Addr} {od : Option Addr} {n : Nat} {osl : Array (Option Value)} {ta tb tc : Tok} (h : K.lookup t = some ⟨.type "tuple", od, .seq #[.str "missed" ta, .str "twice" tb, .str "swapped" tc] n, osl⟩) : KT K t (slipW.map V.str) :=
  ⟨_, _, n, h, rfl, rfl, by show 3 ≤ sizeLine; decide, .cons ⟨ta, rfl⟩ (.cons ⟨tb, rfl⟩ (.cons ⟨tc, rfl⟩ .nil))⟩
theorem kd_mk {t : Addr} {d : Data} {osl : Array (Option Value)} (h : K.lookup t = some ⟨.type "tuple", none, d, osl⟩) : KD K t := ⟨_, h, rfl, rfl⟩
theorem cval_mk {C : Addr} {mc : Value} {tk : Tok} (h : PySem.W.findCls K (.ref C) mc "MOST" = some (.val (.int 3 tk))) : CVal K C mc "MOST" (.int 3) (.int 3 tk) := ⟨h, ⟨tk, rfl⟩⟩
theorem propOf_mk {C p g : Addr} {f : Str} {rest : List Value} (a : PySem.W.findIn K (.ref C) f = some (some (.ref p))) (b : PySem.W.specialIn K (.ref p) "__get__" = some (some (.builtin "property.__get__"))) (c : PySem.W.takesIn K (.ref p) = some true) (d : PySem.W.recIn K p "property" = some (.ref g :: rest)) : PropOf K C f p g := ⟨a, b, c, rest, d⟩
end


theorem exm_of {K : PySem.W.Frag} {D : Addr} {t : Value} {b : Bool} (B : BasF K D) (hb : PySem.W.subIn K (.ref D) (.type "BaseException") = some true) (hs : PySem.W.subIn K t (.ref D) = some b) : PySem.W.exmOne K t (.ref D) = some b := by
  unfold PySem.W.exmOne
  rw [if_pos (by rw [hb]; rfl)]
  obtain ⟨cd, hc, _⟩ := PySem.W.any_some B.hd
  have q : ((PySem.W.clsIn K D).isSome && PySem.W.typeIn K (.ref D) == some (.type "type")) = true := by
    rw [hc, B.tyC]; rfl
  show (if ((PySem.W.clsIn K D).isSome && PySem.W.typeIn K (.ref D) == some (.type "type")) = true then PySem.W.subIn K t (.ref D) else none) = some b
  rw [if_pos q]
  exact hs
theorem exm3 {K : PySem.W.Frag} {t a b c : Value} {x y z : Bool} (h1 : PySem.W.exmOne K t a = some x) (h2 : PySem.W.exmOne K t b = some y) (h3 : PySem.W.exmOne K t c = some z) (hx : x = true) : PySem.W.exmAny K t [a, b, c] = some true := by
  unfold PySem.W.exmAny PySem.W.exmAny PySem.W.exmAny PySem.W.exmAny
  rw [h1, h2, h3, hx]
  rfl
theorem tabIn_of {K : PySem.W.Frag} {x : Str} {f c P : Addr} {oc oc2 : Value} {od od2 : Option Addr} {fd : FuncData} {osl osl2 : Array (Option Value)} {vs : Array Value} (h1 : PySem.W.nsIn K mainGlobals x = some (some (.ref f))) (h2 : K.lookup f = some ⟨oc, od, .func fd, osl⟩) (h3 : fd.code = .ref c) (h4 : K.lookup c = some ⟨oc2, od2, .fields vs, osl2⟩) (h5 : vs[11]? = some (.ref P)) : PySem.W.tabIn K x = some (c, P) := by
  unfold PySem.W.tabIn
  rw [h1]
  dsimp only
  rw [h2]
  dsimp only
  rw [h3]
  dsimp only
  rw [h4]
  dsimp only
  rw [h5]
theorem walkT {l : PySem.W.OpenLaw} {n k : Nat} {q : Program} {loose : List Str} {XP : (Str → Option Value) → Heap → Prop} {YP : World → Heap → Prop} {d d' : DefRec} {K : Params → PySem.W.Frag} {CX : World → CXT} {x x0 : Str}
    (hn : l.most = some n) (hn2 : n ≤ sizeLine) (hdf : d.params.defaults = []) (hr : Room k callerA) (hY : ∀ (w : World) (h : Heap), YP w h → (K w.params).In h) (hrec : (PyProof.Rows.recsOf q).find? (fun e => e.name == x0) = some d')
    (F : ∀ (w : World) (mg : Str → Option Value) (fa : Addr) (h : Heap), (K w.params).In h → h.Ns mainGlobals mg → mg d.name = some (.ref fa) → (∀ c P, PySem.W.tabIn (K w.params) x0 = some (c, P) → PySem.W.CodeHd h c P ∧ h.get? P = some (PySem.W.tabObj #[])) → LawAtS l w (K w.params) (CX w) k n x mg fa h)
    (hCX : ∀ (w : World) (H : Hp) (s : Shared) (e : Value) (s' : Shared), CX w [] H s (fun _ _ _ => False) e s' → False) :
    PySem.W.WalkO q loose XP YP l.row.toRowW d [] (fun f vs => PySem.call f vs) := by
  refine Att.attach_callB hn hdf fun w s₀ s₁ mg mb fa o pm cd doc a vs ns G Y ho hd hcd hmg hobj hints hlen hbits hg => ?_
  have KX := hY w _ Y
  obtain ⟨fd, cs, sp, hT, nT, C, hb, hsp, hF⟩ := F w mg fa _ KX G.T.g hmg (fun c P ht => PySem.W.tab_of G.T KX hrec ht)
  exact law_callTs KX G.T.g G.T.b G.T.builtins G.T.nolimit hg hT nT C G.T.bmain hobj hints (Nat.le_trans hlen hn2) hr hF hb (fun H hH hS => hsp H a ns hlen hbits hH hS) fun H e s' => hCX w H s₁ e s'



section
variable {K : PySem.W.Frag}
theorem lnCh_mk {f : Addr} {oc : Value} {od an : Option Addr} {kV doc pm cdv ct : Value} {osl : Array (Option Value)} (h : K.lookup f = some ⟨oc, od, .func (PySem.W.fnOf "changed" "Line.changed" (defArgs sLC) (defBody sLC) (defScope sLC) .none kV doc pm an cdv ct), osl⟩) (hc : PySem.W.codeIn K cdv "Line.changed" = true) (k : PySem.W.keepIn K (.ref f) = true) : LnCh K f :=
  ⟨⟨oc, od, kV, doc, pm, an, cdv, ct, osl, h, hc⟩, k⟩
theorem kt5 {t : Addr} {od : Option Addr} {n : Nat} {osl : Array (Option Value)} {a b c d e : Str} {ta tb tc td te : Tok} (h : K.lookup t = some ⟨.type "tuple", od, .seq #[.str a ta, .str b tb, .str c tc, .str d td, .str e te] n, osl⟩) : KT K t [.str a, .str b, .str c, .str d, .str e] :=
  ⟨_, _, n, h, rfl, rfl, by show 5 ≤ sizeLine; decide, .cons ⟨ta, rfl⟩ (.cons ⟨tb, rfl⟩ (.cons ⟨tc, rfl⟩ (.cons ⟨td, rfl⟩ (.cons ⟨te, rfl⟩ .nil))))⟩
end

theorem all_mk {l : PySem.W.OpenLaw} {w : World} {K : PySem.W.Frag} {h : Heap} {mg : Str → Option Value} {fa cL tL cB cM cZ c0 i0 c1 i1 c2 i2 c3 i3 c4 i4 fNum fCkR fCkN fCkW fCkS fCkP fCkSW fCkT fCp fBg fD fO fS fFl fGt fWy fWs fCkF fAl fSl fPl fMl fBe fPSt fEq C tE tF fI a0 a1 a2 pT fCh fW : Addr} {gNum gCkR gCkN gCkW gCkS gCkP gCkSW gCkT gCp gBg gD gO gS gFl gGt gWy gWs gCkF gAl gSl gPl gMl hBe hPSt hEq j0 j1 j2 j3 j4 : FuncData} {mc oc oc2 kV doc pm ct : Value} {od od2 an : Option Addr} {osl osl2 : Array (Option Value)} {vs2 : Array Value} {k1 k2 k3 k4 k5 : Tok} (X : K.In h) (G : h.Ns mainGlobals mg) (hfa : mg "law" = some (.ref fa)) (hW : ∀ c P, PySem.W.tabIn K "law" = some (c, P) → PySem.W.CodeHd h c P ∧ h.get? P = some (PySem.W.tabObj #[]))
    (aNum : PySem.W.nsIn K mainGlobals "is_number" = some (some (.ref fNum)))
    (aCkR : PySem.W.nsIn K mainGlobals "check_rooms" = some (some (.ref fCkR)))
    (aCkN : PySem.W.nsIn K mainGlobals "check_number" = some (some (.ref fCkN)))
    (aCkW : PySem.W.nsIn K mainGlobals "check_word" = some (some (.ref fCkW)))
    (aCkS : PySem.W.nsIn K mainGlobals "check_scans" = some (some (.ref fCkS)))
    (aCkP : PySem.W.nsIn K mainGlobals "check_slips" = some (some (.ref fCkP)))
    (aCkSW : PySem.W.nsIn K mainGlobals "check_slip_words" = some (some (.ref fCkSW)))
    (aCkT : PySem.W.nsIn K mainGlobals "check_stretch" = some (some (.ref fCkT)))
    (aCp : PySem.W.nsIn K mainGlobals "copied" = some (some (.ref fCp)))
    (aBg : PySem.W.nsIn K mainGlobals "_law_bag" = some (some (.ref fBg)))
    (aD : PySem.W.nsIn K mainGlobals "_law_draw" = some (some (.ref fD)))
    (aO : PySem.W.nsIn K mainGlobals "_law_of" = some (some (.ref fO)))
    (aS : PySem.W.nsIn K mainGlobals "_law_same" = some (some (.ref fS)))
    (aFl : PySem.W.nsIn K mainGlobals "_law_field" = some (some (.ref fFl)))
    (aGt : PySem.W.nsIn K mainGlobals "_law_got" = some (some (.ref fGt)))
    (aWy : PySem.W.nsIn K mainGlobals "_law_why" = some (some (.ref fWy)))
    (aWs : PySem.W.nsIn K mainGlobals "_law_whys" = some (some (.ref fWs)))
    (aCkF : PySem.W.nsIn K mainGlobals "check_fields" = some (some (.ref fCkF)))
    (aAl : PySem.W.nsIn K mainGlobals "_law_alone_so" = some (some (.ref fAl)))
    (aSl : PySem.W.nsIn K mainGlobals "_law_slip_words" = some (some (.ref fSl)))
    (aPl : PySem.W.nsIn K mainGlobals "_law_planned" = some (some (.ref fPl)))
    (aMl : PySem.W.nsIn K mainGlobals "_law_made_line" = some (some (.ref fMl)))
    (aW : PySem.W.nsIn K mainGlobals "law" = some (some (.ref fW)))
    (e0 : PySem.W.nsIn K mainGlobals "WrongCount" = some (some (.ref c0)))
    (e1 : PySem.W.nsIn K mainGlobals "InvalidNumber" = some (some (.ref c1)))
    (e2 : PySem.W.nsIn K mainGlobals "InvalidWord" = some (some (.ref c2)))
    (e3 : PySem.W.nsIn K mainGlobals "InvalidPoint" = some (some (.ref c3)))
    (e4 : PySem.W.nsIn K mainGlobals "InvalidField" = some (some (.ref c4)))
    (eB : PySem.W.nsIn K mainGlobals "BeltError" = some (some (.ref cB)))
    (eM : PySem.W.nsIn K mainGlobals "Missing" = some (some (.ref cM)))
    (eZ : PySem.W.nsIn K mainGlobals "NothingLeft" = some (some (.ref cZ)))
    (aC : PySem.W.nsIn K mainGlobals "Line" = some (some (.ref C)))
    (aE : PySem.W.nsIn K mainGlobals "SLIP_WORDS" = some (some (.ref tE)))
    (aF : PySem.W.nsIn K mainGlobals "LINE_FIELDS" = some (some (.ref tF)))
    (aB : PySem.W.nsIn K mainGlobals "MOST_BELTS" = some (some (.int 3 k2)))
    (aK : PySem.W.nsIn K mainGlobals "MOST_SLIPS" = some (some (.int 3 k1)))
    (aG : PySem.W.nsIn K mainGlobals "MOST_AMONG" = some (some (.int 6 k4)))
    (aH : PySem.W.nsIn K mainGlobals "MOST_STRETCH" = some (some (.int 12 k5)))
    (z_len : PySem.W.nsIn K mainGlobals "len" = some none)
    (z_int : PySem.W.nsIn K mainGlobals "int" = some none)
    (z_isinstance : PySem.W.nsIn K mainGlobals "isinstance" = some none)
    (z_bool : PySem.W.nsIn K mainGlobals "bool" = some none)
    (z_str : PySem.W.nsIn K mainGlobals "str" = some none)
    (z_list : PySem.W.nsIn K mainGlobals "list" = some none)
    (z_tuple : PySem.W.nsIn K mainGlobals "tuple" = some none)
    (z_all : PySem.W.nsIn K mainGlobals "all" = some none)
    (z_zip : PySem.W.nsIn K mainGlobals "zip" = some none)
    (z_range : PySem.W.nsIn K mainGlobals "range" = some none)
    (z_sorted : PySem.W.nsIn K mainGlobals "sorted" = some none)
    (z_any : PySem.W.nsIn K mainGlobals "any" = some none)
    (z_dict : PySem.W.nsIn K mainGlobals "dict" = some none)
    (kE : KT K tE (slipW.map V.str))
    (kD : KD K tE)
    (cl : Cls K C)
    (n1 : PySem.W.findIn K (.ref C) "_belts" = some none)
    (n2 : PySem.W.findIn K (.ref C) "_scans" = some none)
    (n3 : PySem.W.findIn K (.ref C) "_slips" = some none)
    (n4 : PySem.W.findIn K (.ref C) "_words" = some none)
    (n5 : PySem.W.findIn K (.ref C) "_stretch" = some none)
    (cr : CRead K C mc)
    (cv : CVal K C mc "MOST" (.int 3) (.int 3 k3))
    (mk : Mk K C fI)
    (tI : LnE K fI a0 a1 a2)
    (k0 : KT K a0 [])
    (kk1 : KT K a1 [.int 1, .int 4])
    (kk2 : KT K a2 (slipW.map V.str))
    (kF : KT K tF (fieldsL.map V.str))
    (mBe : Meth K C "belts" fBe)
    (mCh : Meth K C "changed" fCh)
    (tCh : LnCh K fCh)
    (pSt : PropOf K C "stretch" pT fPSt)
    (eA : PySem.W.findIn K (.ref C) "__eq__" = some (some (.ref fEq)))
    (eF : PySem.W.isFn K (.ref fEq) = true)
    (eN : PySem.W.findIn K (.ref C) "__ne__" = some (some (.builtin "object.__ne__")))
    (tc1 : PySem.W.findIn K (.ref C) "__class__" = some (some (.builtin "object.__class__")))
    (tc2 : PySem.W.specialIn K (.builtin "object.__class__") "__get__" = some (some (.builtin "getset_descriptor.__get__")))
    (tc3 : PySem.W.takesIn K (.builtin "object.__class__") = some true)
    (tc4 : PySem.W.mroIn K C (.type "object") = some true)
    (tc5 : BasF K C)
    (nfC : PySem.W.notFirst K C (.ref C) = true)
    (E0 : ClsF K c0 i0 "ValueError.__new__" [.type "ValueError", .type "Exception", .type "BaseException", .type "object"] "given")
    (E1 : ClsF K c1 i1 "ValueError.__new__" [.type "ValueError", .type "Exception", .type "BaseException", .type "object"] "given")
    (E2 : ClsF K c2 i2 "ValueError.__new__" [.type "ValueError", .type "Exception", .type "BaseException", .type "object"] "given")
    (E3 : ClsF K c3 i3 "ValueError.__new__" [.type "ValueError", .type "Exception", .type "BaseException", .type "object"] "given")
    (E4 : ClsF K c4 i4 "ValueError.__new__" [.type "ValueError", .type "Exception", .type "BaseException", .type "object"] "name")
    (bB : BasF K cB)
    (xB : PySem.W.subIn K (.ref cB) (.type "BaseException") = some true)
    (bM : BasF K cM)
    (xM : PySem.W.subIn K (.ref cM) (.type "BaseException") = some true)
    (bZ : BasF K cZ)
    (xZ : PySem.W.subIn K (.ref cZ) (.type "BaseException") = some true)
    (s0B : PySem.W.subIn K (.ref c0) (.ref cB) = some true)
    (s0M : PySem.W.subIn K (.ref c0) (.ref cM) = some false)
    (s0Z : PySem.W.subIn K (.ref c0) (.ref cZ) = some false)
    (s1B : PySem.W.subIn K (.ref c1) (.ref cB) = some true)
    (s1M : PySem.W.subIn K (.ref c1) (.ref cM) = some false)
    (s1Z : PySem.W.subIn K (.ref c1) (.ref cZ) = some false)
    (s2B : PySem.W.subIn K (.ref c2) (.ref cB) = some true)
    (s2M : PySem.W.subIn K (.ref c2) (.ref cM) = some false)
    (s2Z : PySem.W.subIn K (.ref c2) (.ref cZ) = some false)
    (s3B : PySem.W.subIn K (.ref c3) (.ref cB) = some true)
    (s3M : PySem.W.subIn K (.ref c3) (.ref cM) = some false)
    (s3Z : PySem.W.subIn K (.ref c3) (.ref cZ) = some false)
    (s4B : PySem.W.subIn K (.ref c4) (.ref cB) = some true)
    (s4M : PySem.W.subIn K (.ref c4) (.ref cM) = some false)
    (s4Z : PySem.W.subIn K (.ref c4) (.ref cZ) = some false)
    (FNum : Fun K "is_number" "is_number" sNum fNum gNum)
    (FCkR : Fun K "check_rooms" "check_rooms" sCkRooms fCkR gCkR)
    (FCkN : Fun K "check_number" "check_number" sCkNum fCkN gCkN)
    (FCkW : Fun K "check_word" "check_word" sCkWord fCkW gCkW)
    (FCkS : Fun K "check_scans" "check_scans" sScans fCkS gCkS)
    (FCkP : Fun K "check_slips" "check_slips" sSlips fCkP gCkP)
    (FCkSW : Fun K "check_slip_words" "check_slip_words" sSlipW fCkSW gCkSW)
    (FCkT : Fun K "check_stretch" "check_stretch" sStretch fCkT gCkT)
    (FCp : Fun K "copied" "copied" sCopied fCp gCp)
    (FBg : Fun K "_law_bag" "_law_bag" sBag fBg gBg)
    (FD : Fun K "_law_draw" "_law_draw" sDraw fD gD)
    (FO : Fun K "_law_of" "_law_of" sOf fO gO)
    (FS : Fun K "_law_same" "_law_same" sSame fS gS)
    (FFl : Fun K "_law_field" "_law_field" sField fFl gFl)
    (FGt : Fun K "_law_got" "_law_got" sGot fGt gGt)
    (FWy : Fun K "_law_why" "_law_why" sWhy fWy gWy)
    (FWs : Fun K "_law_whys" "_law_whys" sWhys fWs gWs)
    (FCkF : Fun K "check_fields" "check_fields" sCkF fCkF gCkF)
    (FAl : Fun K "_law_alone_so" "_law_alone_so" sAl fAl gAl)
    (FSl : Fun K "_law_slip_words" "_law_slip_words" sSlipW2 fSl gSl)
    (FPl : Fun K "_law_planned" "_law_planned" sPlan fPl gPl)
    (FMl : Fun K "_law_made_line" "_law_made_line" sMadeL fMl gMl)
    (FBe : Fun K "belts" "Line.belts" (sLG 2) fBe hBe)
    (FPSt : Fun K "stretch" "Line.stretch" (sLG 6) fPSt hPSt)
    (FEq : Fun K "__eq__" "Line.__eq__" (sLG 10) fEq hEq)
    (J0 : Fun K "__init__" "WrongCount.__init__" sI0 i0 j0)
    (J1 : Fun K "__init__" "InvalidNumber.__init__" sI1 i1 j1)
    (J2 : Fun K "__init__" "InvalidWord.__init__" sI2 i2 j2)
    (J3 : Fun K "__init__" "InvalidPoint.__init__" sI4 i3 j3)
    (J4 : Fun K "__init__" "InvalidField.__init__" sI5 i4 j4)
    (lk : K.lookup fW = some ⟨oc, od, .func (PySem.W.fnOf "law" "law" (defArgs sLaw) (defBody sLaw) (defScope sLaw) .none kV doc pm an (.ref cL) ct), osl⟩)
    (lc : PySem.W.codeIn K (.ref cL) "law" = true)
    (lt : K.lookup cL = some ⟨oc2, od2, .fields vs2, osl2⟩)
    (lv : vs2[11]? = some (.ref tL))
    (ln : K.lookup tL = none)
    : LawAtS l w K CX0 21 63 "_law_script" mg fa h := by
  have e := hfa.symm.trans (PySem.W.mg_of X G aW)
  obtain rfl : fa = fW := by
    have z := Option.some.inj e
    injection z
  have bNum : Binds K gNum ["value", "least", "most"] [] := FNum.binds fun _ _ _ _ _ _ us hl => match us, hl with | [_, _, _], _ => rfl
  have bCkR : Binds K gCkR ["rooms", "most"] [] := FCkR.binds fun _ _ _ _ _ _ us hl => match us, hl with | [_, _], _ => rfl
  have bCkN : Binds K gCkN ["value", "least", "most"] [] := FCkN.binds fun _ _ _ _ _ _ us hl => match us, hl with | [_, _, _], _ => rfl
  have bCkW : Binds K gCkW ["value", "words"] [] := FCkW.binds fun _ _ _ _ _ _ us hl => match us, hl with | [_, _], _ => rfl
  have bCkS : Binds K gCkS ["scans", "last"] [] := FCkS.binds fun _ _ _ _ _ _ us hl => match us, hl with | [_, _], _ => rfl
  have bCkP : Binds K gCkP ["slips"] [] := FCkP.binds fun _ _ _ _ _ _ us hl => match us, hl with | [_], _ => rfl
  have bCkSW : Binds K gCkSW ["words"] [] := FCkSW.binds fun _ _ _ _ _ _ us hl => match us, hl with | [_], _ => rfl
  have bCkT : Binds K gCkT ["stretch"] [] := FCkT.binds fun _ _ _ _ _ _ us hl => match us, hl with | [_], _ => rfl
  have bCp : Binds K gCp ["value"] [] := FCp.binds fun _ _ _ _ _ _ us hl => match us, hl with | [_], _ => rfl
  have bBg : Binds K gBg ["_law_script"] [] := FBg.binds fun _ _ _ _ _ _ us hl => match us, hl with | [_], _ => rfl
  have bD : Binds K gD ["_law_bag_here", "_law_many"] [] := FD.binds fun _ _ _ _ _ _ us hl => match us, hl with | [_, _], _ => rfl
  have bO : Binds K gO ["_law_bag_here", "_law_some"] [] := FO.binds fun _ _ _ _ _ _ us hl => match us, hl with | [_, _], _ => rfl
  have bS : Binds K gS ["_law_found", "_law_due"] [] := FS.binds fun _ _ _ _ _ _ us hl => match us, hl with | [_, _], _ => rfl
  have bFl : Binds K gFl ["_law_e"] [] := FFl.binds fun _ _ _ _ _ _ us hl => match us, hl with | [_], _ => rfl
  have bGt : Binds K gGt ["_law_ask"] [] := FGt.binds fun _ _ _ _ _ _ us hl => match us, hl with | [_], _ => rfl
  have bWy : Binds K gWy ["_law_ask"] [] := FWy.binds fun _ _ _ _ _ _ us hl => match us, hl with | [_], _ => rfl
  have bWs : Binds K gWs ["_law_asks"] [] := FWs.binds fun _ _ _ _ _ _ us hl => match us, hl with | [_], _ => rfl
  have bCkF : Binds K gCkF ["fields", "names"] [] := FCkF.binds fun _ _ _ _ _ _ us hl => match us, hl with | [_, _], _ => rfl
  have bAl : Binds K gAl ["_law_made", "_law_plan"] [] := FAl.binds fun _ _ _ _ _ _ us hl => match us, hl with | [_, _], _ => rfl
  have bSl : Binds K gSl ["_law_bag_here"] [] := FSl.binds fun _ _ _ _ _ _ us hl => match us, hl with | [_], _ => rfl
  have bPl : Binds K gPl ["_law_bag_here", "_law_most", "_law_wide"] [] := FPl.binds fun _ _ _ _ _ _ us hl => match us, hl with | [_, _, _], _ => rfl
  have bMl : Binds K gMl ["_law_plan"] [] := FMl.binds fun _ _ _ _ _ _ us hl => match us, hl with | [_], _ => rfl
  have bBe : Binds K hBe ["self"] [] := FBe.binds fun _ _ _ _ _ _ us hl => match us, hl with | [_], _ => rfl
  have bPSt : Binds K hPSt ["self"] [] := FPSt.binds fun _ _ _ _ _ _ us hl => match us, hl with | [_], _ => rfl
  have bEq : Binds K hEq ["self", "other"] [] := FEq.binds fun _ _ _ _ _ _ us hl => match us, hl with | [_, _], _ => rfl
  have d0 : Binds K j0 ["self", "given"] [] := J0.binds fun _ _ _ _ _ _ us hl => match us, hl with | [_, _], _ => rfl
  have d1 : Binds K j1 ["self", "given"] [] := J1.binds fun _ _ _ _ _ _ us hl => match us, hl with | [_, _], _ => rfl
  have d2 : Binds K j2 ["self", "given"] [] := J2.binds fun _ _ _ _ _ _ us hl => match us, hl with | [_, _], _ => rfl
  have d3 : Binds K j3 ["self", "given"] [] := J3.binds fun _ _ _ _ _ _ us hl => match us, hl with | [_, _], _ => rfl
  have d4 : Binds K j4 ["self", "name"] [] := J4.binds fun _ _ _ _ _ _ us hl => match us, hl with | [_, _], _ => rfl
  have M := fun {n : Str} {v : Value} (e : PySem.W.nsIn K mainGlobals n = some (some v)) => PySem.W.mg_of X G e
  have Z := fun {n : Str} (e : PySem.W.nsIn K mainGlobals n = some none) => PySem.W.mg_none_of X G e
  have B : Blt mg := ⟨Z z_len, Z z_int, Z z_isinstance, Z z_bool, Z z_str, Z z_list, Z z_tuple, Z z_all, Z z_zip⟩
  have T : LnF K mg C := ⟨cl, M aC, n1, n2, n3, n4, n5, ⟨mc, k3, cr, cv⟩, Z z_len, Z z_tuple, Z z_sorted⟩
  have TC : TyC K C := ⟨tc1, tc2, tc3, tc4, kit_own tc5 tc5.se⟩
  have I : LnInit K fI a0 a1 a2 := ⟨tI, k0, kk1, kk2⟩
  have tabF := hW cL tL (tabIn_of aW lk rfl lt lv)
  refine ⟨PySem.W.fnOf "law" "law" (defArgs sLaw) (defBody sLaw) (defScope sLaw) .none kV doc pm an (.ref cL) ct, [(cL, tL)], spLaw K tL, fun p hp => by rw [List.mem_singleton.mp hp]; exact tabF.2, fun p hp => by rw [List.mem_singleton.mp hp]; exact ln, fun p hp => by rw [List.mem_singleton.mp hp]; exact tabF.1, fun s v => .of_eq rfl, fun H a ns hl _ hH hS => ⟨a, ns, rfl, hS, hl, hH (cL, tL) (List.mem_singleton.mpr rfl), fun H' => rfl⟩, fun base KB GB hTB => ?_⟩
  have GCp := ok_copied (P := l.prog) (w := w) (base := base) FCp (M aCp) bCp B 3
  have T0 : ExK K c0 := E0.T PySem.F.excBase_ValueError PySem.F.store_ValueError
  have C0 : ErrC l.prog w K mg base "WrongCount" "given" c0 := ⟨T0, M e0, ⟨i0, j0, E0.ic, E0.ti, ok_i0 J0 GCp (M aCp) FCp.kp bCp T0 E0.n1 E0.n2, d0⟩, by decide +kernel⟩
  have L0 : ErrTell K cB cM cZ c0 "WrongCount" "given" := ⟨exm3 (exm_of bB xB s0B) (exm_of bM xM s0M) (exm_of bZ xZ s0Z) rfl, T0, ⟨E0.ga, E0.gg, E0.exC, E0.hd⟩, E0.n1, E0.n2, by decide +kernel⟩
  have T1 : ExK K c1 := E1.T PySem.F.excBase_ValueError PySem.F.store_ValueError
  have C1 : ErrC l.prog w K mg base "InvalidNumber" "given" c1 := ⟨T1, M e1, ⟨i1, j1, E1.ic, E1.ti, ok_i1 J1 GCp (M aCp) FCp.kp bCp T1 E1.n1 E1.n2, d1⟩, by decide +kernel⟩
  have L1 : ErrTell K cB cM cZ c1 "InvalidNumber" "given" := ⟨exm3 (exm_of bB xB s1B) (exm_of bM xM s1M) (exm_of bZ xZ s1Z) rfl, T1, ⟨E1.ga, E1.gg, E1.exC, E1.hd⟩, E1.n1, E1.n2, by decide +kernel⟩
  have T2 : ExK K c2 := E2.T PySem.F.excBase_ValueError PySem.F.store_ValueError
  have C2 : ErrC l.prog w K mg base "InvalidWord" "given" c2 := ⟨T2, M e2, ⟨i2, j2, E2.ic, E2.ti, ok_i2 J2 GCp (M aCp) FCp.kp bCp T2 E2.n1 E2.n2, d2⟩, by decide +kernel⟩
  have L2 : ErrTell K cB cM cZ c2 "InvalidWord" "given" := ⟨exm3 (exm_of bB xB s2B) (exm_of bM xM s2M) (exm_of bZ xZ s2Z) rfl, T2, ⟨E2.ga, E2.gg, E2.exC, E2.hd⟩, E2.n1, E2.n2, by decide +kernel⟩
  have T3 : ExK K c3 := E3.T PySem.F.excBase_ValueError PySem.F.store_ValueError
  have C3 : ErrC l.prog w K mg base "InvalidPoint" "given" c3 := ⟨T3, M e3, ⟨i3, j3, E3.ic, E3.ti, ok_i4 J3 GCp (M aCp) FCp.kp bCp T3 E3.n1 E3.n2, d3⟩, by decide +kernel⟩
  have L3 : ErrTell K cB cM cZ c3 "InvalidPoint" "given" := ⟨exm3 (exm_of bB xB s3B) (exm_of bM xM s3M) (exm_of bZ xZ s3Z) rfl, T3, ⟨E3.ga, E3.gg, E3.exC, E3.hd⟩, E3.n1, E3.n2, by decide +kernel⟩
  have T4 : ExK K c4 := E4.T PySem.F.excBase_ValueError PySem.F.store_ValueError
  have C4 : ErrC l.prog w K mg base "InvalidField" "name" c4 := ⟨T4, M e4, ⟨i4, j4, E4.ic, E4.ti, ok_i5 J4 GCp (M aCp) FCp.kp bCp T4 E4.n1 E4.n2, d4⟩, by decide +kernel⟩
  have L4 : ErrTell K cB cM cZ c4 "InvalidField" "name" := ⟨exm3 (exm_of bB xB s4B) (exm_of bM xM s4M) (exm_of bZ xZ s4Z) rfl, T4, ⟨E4.ga, E4.gg, E4.exC, E4.hd⟩, E4.n1, E4.n2, by decide +kernel⟩
  have HNum := ok_numD (P := l.prog) (w := w) (base := base) FNum B.isi B.bool B.int
  have HCkN := ok_ckN (P := l.prog) (w := w) (base := base) FCkN HNum (M aNum) FNum.kp bNum C1
  have HCkW := ok_ckW (P := l.prog) (w := w) (mg := mg) (base := base) FCkW C2
  have HCkR := ok_ckR (P := l.prog) (w := w) (base := base) FCkR HCkN (M aCkN) FCkN.kp bCkN B.len (M aB) C0
  have HCkS := ok_ckS (P := l.prog) (w := w) (base := base) FCkS HNum (M aNum) FNum.kp bNum C3
  have HCkP := ok_ckP (P := l.prog) (w := w) (base := base) FCkP HNum (M aNum) FNum.kp bNum B.isi (Z z_tuple) B.len (M aK) (M aG) C1
  have HCkSW := ok_ckSW (P := l.prog) (w := w) (base := base) FCkSW HCkW (M aCkW) FCkW.kp bCkW (M aE) kE kD
  have HCkT := ok_ckT (P := l.prog) (w := w) (base := base) FCkT HCkN (M aCkN) FCkN.kp bCkN (M aH)
  have GD := ok_draw (P := l.prog) (w := w) (base := base) FD B.len B.int
  have GO := ok_of (P := l.prog) (w := w) (base := base) FO GD (M aD) FD.kp bD B.len
  have GSl := ok_slipD (P := l.prog) (w := w) (base := base) FSl GD (M aD) FD.kp bD
  have GPl := ok_plan (P := l.prog) (w := w) (base := base) FPl GD (M aD) FD.kp bD GO (M aO) FO.kp bO GSl (M aSl) FSl.kp bSl (Z z_range)
  have GFl := ok_fieldQ (P := l.prog) (w := w) (mg := mg) (base := base) FFl
  have GGt := ok_got (P := l.prog) (w := w) (base := base) FGt GFl (M aFl) FFl.kp bFl (M eB) (M eM) (M eZ)
  have GWy := ok_why (P := l.prog) (w := w) (base := base) FWy GGt (M aGt) FGt.kp bGt
  let cA : Nat → Addr := fun n => match n with | 0 => c0 | 1 => c1 | 2 => c2 | _ => c3
  have ck : CkL l.prog w K mg base cA := ⟨⟨fCkR, gCkR, HCkR, M aCkR, FCkR.kp, bCkR⟩, ⟨fCkS, gCkS, HCkS, M aCkS, FCkS.kp, bCkS⟩, ⟨fCkP, gCkP, HCkP, M aCkP, FCkP.kp, bCkP⟩, ⟨fCkSW, gCkSW, HCkSW, M aCkSW, FCkSW.kp, bCkSW⟩, ⟨fCkT, gCkT, HCkT, M aCkT, FCkT.kp, bCkT⟩⟩
  have GMl := ok_madeL (P := l.prog) (w := w) (base := base) FMl I T ck mk
  have GWs := ok_whys (P := l.prog) (w := w) (base := base) FWs GWy (M aWy) FWy.kp bWy
  have HCkF := ok_ckFX (P := l.prog) (w := w) (mg := mg) (base := base) FCkF C4
  have ch : ChF l.prog w K mg base fI C a0 a1 a2 cA c4 := ⟨T, mk, I, ck, ⟨fCkF, gCkF, HCkF, M aCkF, FCkF.kp, bCkF⟩, ⟨tF, M aF, kF⟩⟩
  have GEq := ok_leq (P := l.prog) (w := w) (mg := mg) (base := base) FEq T TC B.isi
  have GAl := ok_al (P := l.prog) (w := w) (base := base) FAl tCh ch mCh TC eA eF GEq bEq nfC B.len B.list (Z z_range) B.int (Z z_any)
  exact ok_law (cA := cA) lk lc {
    ch := ch
    TC := TC
    bag := ⟨fBg, gBg, ok_bag FBg B.len B.int, M aBg, FBg.kp, bBg⟩
    draw := ⟨fD, gD, GD, M aD, FD.kp, bD⟩
    plan := ⟨fPl, gPl, GPl, M aPl, FPl.kp, bPl⟩
    madeL := ⟨fMl, gMl, GMl, M aMl, FMl.kp, bMl⟩
    al := ⟨fAl, gAl, GAl, M aAl, FAl.kp, bAl⟩
    same := ⟨fS, gS, ok_same FS (M aS) bS B 5, M aS, FS.kp, bS⟩
    whys := ⟨fWs, gWs, GWs, M aWs, FWs.kp, bWs⟩
    p2 := ⟨pT, fPSt, hPSt, pSt, ok_stretch FPSt T, bPSt⟩
    be := ⟨fBe, hBe, ok_lbelts FBe T B.list, mBe, bBe⟩
    cg := ⟨fCh, mCh, tCh⟩
    eq := ⟨fEq, hEq, eA, eF, GEq, bEq⟩
    ne := eN
    nfC := nfC
    tell := fun n hn => match n, hn with
      | 0, _ => L0
      | 1, _ => L1
      | 2, _ => L2
      | 3, _ => L3
      | _ + 4, h => absurd h (by omega)
    tellF := L4
    TB := hTB (cL, tL) (List.mem_singleton.mpr rfl)
    z_range := Z z_range
    z_len := Z z_len
    z_list := Z z_list
    z_dict := Z z_dict
    z_zip := Z z_zip }
end Own

open PySem PySem.W PyProof.Rows in
set_option maxRecDepth 100000 in
set_option maxHeartbeats 0 in
theorem PySem.Challenge.cw_ownchute_k04_lines_changed_holds : PySem.Challenge.rw_ownchute_k04_lines_changed.Holds := by
  w_on; o_law; k_head; (case hw => w_witness2)
  k_fill
  refine Own.walkT (l := PySem.Challenge.rw_ownchute_k04_lines_changed) (n := 63) (k := 21) (x := "_law_script") (x0 := "law") (CX := fun _ => L2.CX0) rfl (by decide) rfl ⟨rfl, by decide, by decide⟩ (fun w h Y => PySem.W.km_in_of Y) (by rfl) ?F (fun _ _ _ _ _ z => z)
  case F =>
    intro w mg fa h KX G hmg hW
    refine' Own.all_mk (mc := .type "type") KX G hmg hW ?aNum ?aCkR ?aCkN ?aCkW ?aCkS ?aCkP ?aCkSW ?aCkT ?aCp ?aBg ?aD ?aO ?aS ?aFl ?aGt ?aWy ?aWs ?aCkF ?aAl ?aSl ?aPl ?aMl ?aW ?e0 ?e1 ?e2 ?e3 ?e4 ?eB ?eM ?eZ ?aC ?aE ?aF ?aB ?aK ?aG ?aH ?z_len ?z_int ?z_isinstance ?z_bool ?z_str ?z_list ?z_tuple ?z_all ?z_zip ?z_range ?z_sorted ?z_any ?z_dict ?kE ?kD ?cl ?n1 ?n2 ?n3 ?n4 ?n5 ?cr ?cv ?mk ?tI ?k0 ?kk1 ?kk2 ?kF ?mBe ?mCh ?tCh ?pSt ?eA ?eF ?eN ?tc1 ?tc2 ?tc3 ?tc4 ?tc5 ?nfC ?E0 ?E1 ?E2 ?E3 ?E4 ?bB ?xB ?bM ?xM ?bZ ?xZ ?s0B ?s0M ?s0Z ?s1B ?s1M ?s1Z ?s2B ?s2M ?s2Z ?s3B ?s3M ?s3Z ?s4B ?s4M ?s4Z ?FNum ?FCkR ?FCkN ?FCkW ?FCkS ?FCkP ?FCkSW ?FCkT ?FCp ?FBg ?FD ?FO ?FS ?FFl ?FGt ?FWy ?FWs ?FCkF ?FAl ?FSl ?FPl ?FMl ?FBe ?FPSt ?FEq ?J0 ?J1 ?J2 ?J3 ?J4 ?lk ?lc ?lt ?lv ?ln
    (case aNum => (k_is))
    (case aCkR => (k_is))
    (case aCkN => (k_is))
    (case aCkW => (k_is))
    (case aCkS => (k_is))
    (case aCkP => (k_is))
    (case aCkSW => (k_is))
    (case aCkT => (k_is))
    (case aCp => (k_is))
    (case aBg => (k_is))
    (case aD => (k_is))
    (case aO => (k_is))
    (case aS => (k_is))
    (case aFl => (k_is))
    (case aGt => (k_is))
    (case aWy => (k_is))
    (case aWs => (k_is))
    (case aCkF => (k_is))
    (case aAl => (k_is))
    (case aSl => (k_is))
    (case aPl => (k_is))
    (case aMl => (k_is))
    (case aW => (k_is))
    (case e0 => (k_is))
    (case e1 => (k_is))
    (case e2 => (k_is))
    (case e3 => (k_is))
    (case e4 => (k_is))
    (case eB => (k_is))
    (case eM => (k_is))
    (case eZ => (k_is))
    (case aC => (k_is))
    (case aE => (k_is))
    (case aF => (k_is))
    (case aB => (k_is))
    (case aK => (k_is))
    (case aG => (k_is))
    (case aH => (k_is))
    (case z_len => (k_is))
    (case z_int => (k_is))
    (case z_isinstance => (k_is))
    (case z_bool => (k_is))
    (case z_str => (k_is))
    (case z_list => (k_is))
    (case z_tuple => (k_is))
    (case z_all => (k_is))
    (case z_zip => (k_is))
    (case z_range => (k_is))
    (case z_sorted => (k_is))
    (case z_any => (k_is))
    (case z_dict => (k_is))
    (case kE => (exact Own.kt3 (by k_is)))
    (case kD => (exact Own.kd_mk (by k_is)))
    (case cl => (constructor <;> k_is))
    (case n1 => (k_is))
    (case n2 => (k_is))
    (case n3 => (k_is))
    (case n4 => (k_is))
    (case n5 => (k_is))
    (case cr => (constructor <;> k_is))
    (case cv => (exact Own.cval_mk (by k_is)))
    (case mk => (constructor <;> k_is))
    (case tI => ((refine' Own.lnE_mk ?x1 ?x2 ?x3 ?x4 ?x5 ?x6; (case x1 => k_is); (case x2 => k_is); (case x3 => k_is); (case x4 => k_is); (case x5 => k_is); (case x6 => k_is))))
    (case k0 => (exact Own.kt0 (by k_is)))
    (case kk1 => (exact Own.ktI (by k_is)))
    (case kk2 => (exact Own.kt3 (by k_is)))
    (case kF => (exact Own.kt5 (by k_is)))
    (case mBe => (constructor <;> k_is))
    (case mCh => (constructor <;> k_is))
    (case tCh => ((refine' Own.lnCh_mk ?x1 ?x2 ?x3; (case x1 => k_is); (case x2 => k_is); (case x3 => k_is))))
    (case pSt => ((refine' Own.propOf_mk ?x1 ?x2 ?x3 ?x4; (case x1 => k_is); (case x2 => k_is); (case x3 => k_is); (case x4 => k_is))))
    (case eA => (k_is))
    (case eF => (k_is))
    (case eN => (k_is))
    (case tc1 => (k_is))
    (case tc2 => (k_is))
    (case tc3 => (k_is))
    (case tc4 => (k_is))
    (case tc5 => (constructor <;> k_is))
    (case nfC => (k_is))
    (case E0 => (constructor <;> first | k_is | kx_is))
    (case E1 => (constructor <;> first | k_is | kx_is))
    (case E2 => (constructor <;> first | k_is | kx_is))
    (case E3 => (constructor <;> first | k_is | kx_is))
    (case E4 => (constructor <;> first | k_is | kx_is))
    (case bB => (constructor <;> k_is))
    (case xB => (k_is))
    (case bM => (constructor <;> k_is))
    (case xM => (k_is))
    (case bZ => (constructor <;> k_is))
    (case xZ => (k_is))
    (case s0B => (k_is))
    (case s0M => (k_is))
    (case s0Z => (k_is))
    (case s1B => (k_is))
    (case s1M => (k_is))
    (case s1Z => (k_is))
    (case s2B => (k_is))
    (case s2M => (k_is))
    (case s2Z => (k_is))
    (case s3B => (k_is))
    (case s3M => (k_is))
    (case s3Z => (k_is))
    (case s4B => (k_is))
    (case s4M => (k_is))
    (case s4Z => (k_is))
    (case FNum => ((refine' L2.fun_mk ?x1 ?x2 ?x3; (case x1 => k_is); (case x2 => k_is); (case x3 => k_is))))
    (case FCkR => ((refine' L2.fun_mk ?x1 ?x2 ?x3; (case x1 => k_is); (case x2 => k_is); (case x3 => k_is))))
    (case FCkN => ((refine' L2.fun_mk ?x1 ?x2 ?x3; (case x1 => k_is); (case x2 => k_is); (case x3 => k_is))))
    (case FCkW => ((refine' L2.fun_mk ?x1 ?x2 ?x3; (case x1 => k_is); (case x2 => k_is); (case x3 => k_is))))
    (case FCkS => ((refine' L2.fun_mk ?x1 ?x2 ?x3; (case x1 => k_is); (case x2 => k_is); (case x3 => k_is))))
    (case FCkP => ((refine' L2.fun_mk ?x1 ?x2 ?x3; (case x1 => k_is); (case x2 => k_is); (case x3 => k_is))))
    (case FCkSW => ((refine' L2.fun_mk ?x1 ?x2 ?x3; (case x1 => k_is); (case x2 => k_is); (case x3 => k_is))))
    (case FCkT => ((refine' L2.fun_mk ?x1 ?x2 ?x3; (case x1 => k_is); (case x2 => k_is); (case x3 => k_is))))
    (case FCp => ((refine' L2.fun_mk ?x1 ?x2 ?x3; (case x1 => k_is); (case x2 => k_is); (case x3 => k_is))))
    (case FBg => ((refine' L2.fun_mk ?x1 ?x2 ?x3; (case x1 => k_is); (case x2 => k_is); (case x3 => k_is))))
    (case FD => ((refine' L2.fun_mk ?x1 ?x2 ?x3; (case x1 => k_is); (case x2 => k_is); (case x3 => k_is))))
    (case FO => ((refine' L2.fun_mk ?x1 ?x2 ?x3; (case x1 => k_is); (case x2 => k_is); (case x3 => k_is))))
    (case FS => ((refine' L2.fun_mk ?x1 ?x2 ?x3; (case x1 => k_is); (case x2 => k_is); (case x3 => k_is))))
    (case FFl => ((refine' L2.fun_mk ?x1 ?x2 ?x3; (case x1 => k_is); (case x2 => k_is); (case x3 => k_is))))
    (case FGt => ((refine' L2.fun_mk ?x1 ?x2 ?x3; (case x1 => k_is); (case x2 => k_is); (case x3 => k_is))))
    (case FWy => ((refine' L2.fun_mk ?x1 ?x2 ?x3; (case x1 => k_is); (case x2 => k_is); (case x3 => k_is))))
    (case FWs => ((refine' L2.fun_mk ?x1 ?x2 ?x3; (case x1 => k_is); (case x2 => k_is); (case x3 => k_is))))
    (case FCkF => ((refine' L2.fun_mk ?x1 ?x2 ?x3; (case x1 => k_is); (case x2 => k_is); (case x3 => k_is))))
    (case FAl => ((refine' L2.fun_mk ?x1 ?x2 ?x3; (case x1 => k_is); (case x2 => k_is); (case x3 => k_is))))
    (case FSl => ((refine' L2.fun_mk ?x1 ?x2 ?x3; (case x1 => k_is); (case x2 => k_is); (case x3 => k_is))))
    (case FPl => ((refine' L2.fun_mk ?x1 ?x2 ?x3; (case x1 => k_is); (case x2 => k_is); (case x3 => k_is))))
    (case FMl => ((refine' L2.fun_mk ?x1 ?x2 ?x3; (case x1 => k_is); (case x2 => k_is); (case x3 => k_is))))
    (case FBe => ((refine' L2.fun_mk ?x1 ?x2 ?x3; (case x1 => k_is); (case x2 => k_is); (case x3 => k_is))))
    (case FPSt => ((refine' L2.fun_mk ?x1 ?x2 ?x3; (case x1 => k_is); (case x2 => k_is); (case x3 => k_is))))
    (case FEq => ((refine' L2.fun_mk ?x1 ?x2 ?x3; (case x1 => k_is); (case x2 => k_is); (case x3 => k_is))))
    (case J0 => ((refine' L2.fun_mk ?x1 ?x2 ?x3; (case x1 => k_is); (case x2 => k_is); (case x3 => k_is))))
    (case J1 => ((refine' L2.fun_mk ?x1 ?x2 ?x3; (case x1 => k_is); (case x2 => k_is); (case x3 => k_is))))
    (case J2 => ((refine' L2.fun_mk ?x1 ?x2 ?x3; (case x1 => k_is); (case x2 => k_is); (case x3 => k_is))))
    (case J3 => ((refine' L2.fun_mk ?x1 ?x2 ?x3; (case x1 => k_is); (case x2 => k_is); (case x3 => k_is))))
    (case J4 => ((refine' L2.fun_mk ?x1 ?x2 ?x3; (case x1 => k_is); (case x2 => k_is); (case x3 => k_is))))
    (case lk => (k_is))
    (case lc => (k_is))
    (case lt => (k_is))
    (case lv => (rfl))
    (case ln => (first | k_is | kernel_rfl | rfl))
