/- The symbolic machine's functions. -/
import Derived.Test.YtgdhpgjfebinhaaFvo
namespace Go.Proofs.Ytgdhpgjfebinhaa.Ev
set_option linter.unusedSimpArgs false
open Go Go.RowKit
set_option linter.unusedVariables false
set_option linter.unusedSectionVars false
variable {P : Program} {ρ : Env} {Γ : Facts}
variable {ds : List Deferred}

def evAddrS (v : SV) : Option Addr := match v with
  | .ptr (some a) => some a
  | _ => none
def evRes1 (P : Program) (T : List SV) (H : Hp) : ResultVar → Option SV
  | .tmp t => if (T.getD t uS).isAny then none else some (T.getD t uS)
  | .cell a t => (evAddrS (T.getD a uS)).bind fun ad => evLoad P t ad H
def evResL (P : Program) (T : List SV) (H : Hp) : List ResultVar → Option (List SV)
  | [] => some []
  | r :: l => match evRes1 P T H r, evResL P T H l with
    | some v, some vs => some (v :: vs)
    | _, _ => none
def one : List SV → SV
  | [v] => v
  | l => .tuple l

def resOne (P : Program) (tmps : Array Value) : ResultVar → Sem Value
  | .tmp t => pure (tmps.getD t undef)
  | .cell a t => do loadVar t (← asAddr (tmps.getD a undef))

theorem resL_ok {σ : Sg} {T : List SV} {H : Hp} {a : Act} {w : World} (hT : TRel ds ρ σ H.length T a) (hr : HRel P ρ σ H w) : ∀ (l : List ResultVar) (vs : List SV), evResL P T H l = some vs →
    (l.mapM (resOne P a.tmps)).run P w = .ok (denL ρ σ vs) w ∧ insideL H.length vs = true
  | [], vs, h => by cases h; exact ⟨by simp [denL], rfl⟩
  | r :: l, vs, h => by
    simp only [evResL] at h
    split at h
    · rename_i v vs' h1 h2
      cases h
      obtain ⟨e2, s2⟩ := resL_ok hT hr l vs' h2
      have h3 : (resOne P a.tmps r).run P w = .ok (v.den ρ σ) w ∧ v.inside H.length = true := by
        cases r with
        | tmp t =>
          simp only [evRes1] at h1
          split at h1
          · cases h1
          · rename_i hn
            cases h1; exact ⟨by simp only [resOne, Sem.run_pure]; rw [hT.val t (by simpa using hn)], hT.getD t⟩
        | cell b t =>
          simp only [evRes1] at h1
          obtain ⟨ad, had, hv⟩ := Option.bind_eq_some_iff.1 h1
          obtain ⟨g1, g2⟩ := load_ok hr hv
          refine ⟨?_, g2⟩
          unfold evAddrS at had
          split at had
          · rename_i ad' he
            cases had
            have hb := hT.val b (by rw [he]; rfl)
            rw [he] at hb
            simp only [resOne, hb, SV.den, Option.map_some, asAddr, Sem.run_bind, Sem.run_pure, Result.andThen_ok, g1]
          · cases had
      refine ⟨?_, by simp [insideL, h3.2, s2]⟩
      simp only [List.mapM_cons, Sem.run_bind, h3.1, e2, Result.andThen_ok, Sem.run_pure, denL]
    · cases h

theorem results_ok {σ : Sg} {T : List SV} {H : Hp} {a : Act} {w : World} {fn : Func} {vs : List SV} (hT : TRel ds ρ σ H.length T a) (hr : HRel P ρ σ H w) (h : evResL P T H fn.results.toList = some vs) :
    (results fn a.tmps).run P w = .ok ((one vs).den ρ σ) w ∧ (one vs).inside H.length = true := by
  obtain ⟨h1, h2⟩ := resL_ok hT hr _ _ h
  have hm : (fn.results.mapM (resOne P a.tmps)).run P w = .ok (denL ρ σ vs).toArray w := by
    generalize hr : fn.results = rs at h1
    obtain ⟨l⟩ := rs
    rw [List.mapM_toArray]
    simp only [Sem.run_map, h1, Result.andThen_ok]
  have hres : (results fn a.tmps).run P w = ((fn.results.mapM (resOne P a.tmps)).run P w).andThen fun vs w' => .ok (if h : vs.size = 1 then vs[0] else .tuple vs) w' := by
    unfold results
    rw [Sem.run_bind]
    rfl
  rw [hres, hm]
  simp only [Result.andThen_ok]
  match vs, h2 with
  | [], h2 => exact ⟨by simp [one, denL, SV.den], rfl⟩
  | [v], h2 => exact ⟨by simp [one, denL], by simp only [insideL, Bool.and_true] at h2; exact h2⟩
  | v :: u :: l, h2 => exact ⟨by simp [one, denL, SV.den], h2⟩

def findF {α : Type} : List (FuncId × α) → FuncId → Option α
  | [], _ => none
  | (k, v) :: l, f => if Nat.beq k f then some v else findF l f
theorem findF_mem {α : Type} : ∀ {l : List (FuncId × α)} {f : FuncId} {v : α}, findF l f = some v → (f, v) ∈ l
  | [], _, _, h => by cases h
  | (k, u) :: l, f, v, h => by
    simp only [findF] at h
    split at h
    · rename_i e; cases h; have := Nat.eq_of_beq_eq_true e; subst this; simp
    · exact List.mem_cons_of_mem _ (findF_mem h)
def findC : List ((FuncId × List SV) × SV) → FuncId → List SV → Option SV
  | [], _, _ => none
  | ((k, xs), v) :: l, f, args => if Nat.beq k f && sameL xs args then some v else findC l f args
theorem findC_mem : ∀ {l : List ((FuncId × List SV) × SV)} {f : FuncId} {args : List SV} {v : SV}, findC l f args = some v → ((f, args), v) ∈ l
  | [], _, _, _, h => by cases h
  | ((k, xs), u) :: l, f, args, v, h => by
    simp only [findC] at h
    split at h
    · rename_i e
      simp only [Bool.and_eq_true] at e
      cases h
      have h1 := Nat.eq_of_beq_eq_true e.1
      have h2 := sameL_eq _ _ e.2
      subst h1; subst h2; simp
    · exact List.mem_cons_of_mem _ (findC_mem h)

/-- What is told of a call without a walk. -/
def told (Γ : Facts) (f : FuncId) (args : List SV) : Option SV := match findC Γ.calls f args with
  | some v => some v
  | none => match findF Γ.sums f with
    | some g => g Γ.dom args
    | none => none
theorem told_ok (hΓ : Γ.Holds P ρ) {f : FuncId} {args : List SV} {v : SV} (h : told Γ f args = some v) (w : World) : Calls P f (denL ρ σ0 args).toArray w fun e w' => e = .returned (v.den ρ σ0) ∧ Below w.heap.size w w' := by
  unfold told at h
  split at h
  · rename_i u hu; cases h; exact hΓ.calls _ (findC_mem hu) w
  · split at h
    · rename_i g hg; exact hΓ.sums _ (findF_mem hg) Γ.dom hΓ.dom args v h w
    · cases h

theorem good_below {σ : Sg} {H : Hp} {w w' : World} {v : SV} (hr : HRel P ρ σ H w) (hv : v.inside 0 = true) (hb : Below w.heap.size w w') : Good P ρ σ H (v, H, []) w (v.den ρ σ0) w' := by
  refine ⟨σ, ⟨fun _ _ => ⟨rfl, rfl, rfl, rfl⟩, Nat.le_refl _, ⟨fun b x h => ?_, hr.inj⟩, fun b h1 h2 _ => by simp only at h2; omega, hb.os, hb.tape, hb.output, hb.size, Kd.same fun k hk => hb.block k hk, fun k hk _ => hb.block k hk, fun _ _ _ => rfl⟩, (SV.den_agree (n := 0) (fun b hb => by omega) v hv).symm, SV.inside_mono (Nat.zero_le _) v hv⟩
  obtain ⟨h1, hat⟩ := hr.blk b x h
  exact ⟨h1, hat.to rfl fun hg => hb.block _ (hr.lt h hg)⟩

def findH : List CallE → FuncId → List SV → Hp → Option CallE
  | [], _, _, _ => none
  | c :: l, f, args, H => if Nat.beq c.f f && (sameL args c.args && (Nat.beq H.length c.HM.length && (sameH (maskF c.M 0 H) c.HM && c.r.inside (H.length + c.Hn.length)))) then some c else findH l f args H
theorem findH_mem : ∀ {l : List CallE} {f : FuncId} {args : List SV} {H : Hp} {c : CallE}, findH l f args H = some c → c ∈ l ∧ c.f = f ∧ c.args = args ∧ maskF c.M 0 H = c.HM ∧ c.r.inside (H.length + c.Hn.length) = true
  | [], _, _, _, _, h => by cases h
  | x :: l, f, args, H, c, h => by
    simp only [findH] at h
    split at h
    · rename_i hc
      cases h
      simp only [Bool.and_eq_true] at hc
      obtain ⟨h1, h2, h3, h4, h5⟩ := hc
      exact ⟨by simp, Nat.eq_of_beq_eq_true h1, (sameL_eq _ _ h2).symm, sameH_eq h4, h5⟩
    · obtain ⟨g1, g2⟩ := findH_mem h
      exact ⟨List.mem_cons_of_mem _ g1, g2⟩
/-- What is told of a call that sees blocks. -/
def toldH (Γ : Facts) (f : FuncId) (args : List SV) (H : Hp) : Option Out := (findH Γ.callsH f args H).map fun c => (c.r, H ++ c.Hn, [])
theorem toldH_ok (hΓ : Γ.Holds P ρ) {σ : Sg} {H : Hp} {w : World} (hr : HRel P ρ σ H w) {f : FuncId} {args : List SV} {r : Out} (h : toldH Γ f args H = some r) :
    Calls P f (denL ρ σ args).toArray w fun e w' => ∃ v, e = .returned v ∧ Good P ρ σ H r w v w' := by
  obtain ⟨c, hc, rfl⟩ := Option.map_eq_some_iff.1 h
  obtain ⟨hm, rfl, rfl, hM, hin⟩ := findH_mem hc
  have hl : c.HM.length = H.length := by rw [← hM, maskF_length]
  have hr' : HRel P ρ σ c.HM w := by
    refine ⟨fun b x hb => ?_, fun b b' x x' hb hb' => ?_⟩
    · rw [← hM] at hb
      have := hr.blk b x (mask_some hb).2
      rw [hl]; exact this
    · rw [← hM] at hb hb'
      exact hr.inj b b' x x' (mask_some hb).2 (mask_some hb').2
  refine Calls.mono (hΓ.callsH c hm σ w hr') fun e w' ⟨σ', hp, he⟩ => ⟨_, he, σ', ?_, rfl, by simp only [List.length_append]; exact hin⟩
  have hext : σ.agree H.length σ' := by have := hp.ext; rwa [hl] at this
  have hfr : ∀ k, k < w.heap.size → w'.heap[k]? = w.heap[k]? := fun k hk => hp.frame k hk fun b hb => by cases hb
  have old : ∀ (b : Nat) (x : Blk), b < H.length → (H ++ c.Hn)[b]? = some (some x) → H[b]? = some (some x) := fun b x hlt hb => by rwa [List.getElem?_append_left hlt] at hb
  have new : ∀ (b : Nat) (x : Blk), H.length ≤ b → (H ++ c.Hn)[b]? = some (some x) → (c.HM ++ c.Hn)[b]? = some (some x) := fun b x hle hb => by
    rw [List.getElem?_append_right hle] at hb
    rw [List.getElem?_append_right (by omega), hl]; exact hb
  have fresh : ∀ (b : Nat), H.length ≤ b → b < (H ++ c.Hn).length → σ'.gh b = none → w.heap.size ≤ σ'.blk b := fun b hle hlt hg => by
    rcases hp.new b (by omega) (by simp only [List.length_append] at hlt ⊢; omega) hg with h | ⟨d, hd, _⟩
    · exact h
    · cases hd
  have lenlt : ∀ {b : Nat} {x : Blk}, (H ++ c.Hn)[b]? = some (some x) → b < (H ++ c.Hn).length := fun hb => (List.getElem?_eq_some_iff.1 hb).1
  refine ⟨hext, by simp, ⟨fun b x hb => ?_, fun b b' x x' hb hb' hs hg hg' he => ?_⟩, fun b h1 h2 hg => .inl (fresh b h1 h2 hg), hp.os, hp.tape, hp.out, hp.size, hp.kd, fun k hk _ => hfr k hk, fun b hb _ => by rw [List.getElem?_append_left hb]⟩
  · rcases Nat.lt_or_ge b H.length with hlt | hge
    · have hb0 := old b x hlt hb
      obtain ⟨hi, hat⟩ := hr.blk b x hb0
      refine ⟨insideL_mono (by simp) _ hi, ?_⟩
      rw [hext.pl hlt]
      exact hat.to (denL_agree hext _ hi) fun hg => hfr _ (hr.lt hb0 hg)
    · have := hp.rel.blk b x (new b x hge hb)
      simp only [List.length_append, hl] at this
      simpa only [List.length_append] using this
  · rcases Nat.lt_or_ge b H.length with hlt | hge <;> rcases Nat.lt_or_ge b' H.length with hlt' | hge'
    · rw [hext.gh hlt] at hg; rw [hext.gh hlt'] at hg'
      rw [(hext b hlt).1, (hext b' hlt').1] at he
      exact hr.inj b b' x x' (old b x hlt hb) (old b' x' hlt' hb') hs hg hg' he
    · rw [hext.gh hlt] at hg
      rw [(hext b hlt).1] at he
      have := hr.lt (old b x hlt hb) hg
      have := fresh b' hge' (lenlt hb') hg'
      omega
    · rw [hext.gh hlt'] at hg'
      rw [(hext b' hlt').1] at he
      have := hr.lt (old b' x' hlt' hb') hg'
      have := fresh b hge (lenlt hb) hg
      omega
    · exact hp.rel.inj b b' x x' (new b x hge hb) (new b' x' hge' hb') hs hg hg' he
def evF (P : Program) (Γ : Facts) (Λ : List LoopF) (lf : Nat) : Nat → CallF
  | 0, _, _, _ => none
  | d + 1, f, args, H => if Nat.beq f yieldF then evYield P (fun g p c T H => evC P Γ Λ lf (evF P Γ Λ lf d) g 1000 p c T H) args H else match P.funcs[f]? with
    | none => none
    | some fn => match fn.body with
      | none => (match findF Γ.exts f, litL? args with
        | some g, some l => (match g l with
          | some v => (ofVal 64 v).map fun v => (v, H, [])
          | none => none)
        | _, _ => (match findF Γ.extS f with
          | some g => (match g Γ.dom args with
            | some v => if insideL 0 args && v.inside 0 then some (v, H, []) else none
            | none => none)
          | none => none))
      | some c => match (if insideL 0 args then told Γ f args else none) with
        | some v => if v.inside 0 then some (v, H, []) else none
        | none => match toldH Γ f args H with
         | some r => some r
         | none => match evC P Γ Λ lf (evF P Γ Λ lf d) f 1000 [] c (args ++ List.replicate (fn.ntmps - args.length) uS) H with
          | some (.exit _, _, _, _) => none
          | some (_, T', H', W') => (evResL P T' H' fn.results.toList).map fun vs => endCall H (one vs) H' W'
          | none => none

theorem evF_ok (hm : P.follows .mixedOrders = true) (hn : namesOk P = true) (hΓ : Γ.Holds P ρ) {Λ : List LoopF} (hΛ : ∀ l ∈ Λ, l.Ok P ρ) {lf : Nat} : ∀ d, CallOk P ρ (evF P Γ Λ lf d)
  | 0 => fun f args H r h => by cases h
  | d + 1 => by
    intro f args H r h σ w hr hin
    simp only [evF] at h
    split at h
    · rename_i hy
      have hy := Nat.eq_of_beq_eq_true hy
      subst hy
      exact evYield_ok (fun g p c T H r hc hev => evC_ok hm hn hΓ hΛ (evF_ok hm hn hΓ hΛ d) _ _ _ _ _ _ hc hev) h hr hin
    rename_i hy
    rw [callY_ne (eq_false_of_ne_true hy)]
    split at h
    · cases h
    · rename_i fn hf
      split at h
      · rename_i hb
        split at h
        · rename_i g l hg hl
          split at h
          · rename_i u hu
            obtain ⟨v, hv, rfl⟩ := Option.map_eq_some_iff.1 h
            obtain ⟨e, s⟩ := ofVal_den (ρ := ρ) (σ := σ) _ _ _ hv
            rw [litL_den _ _ hl, hΓ.exts _ (findF_mem hg) l u hu w, ← e]
            exact good_same hr (s _)
          · cases h
        · split at h
          · rename_i g hg
            split at h
            · rename_i v hv
              split at h <;> cases h
              rename_i hin0
              simp only [Bool.and_eq_true] at hin0
              have := hΓ.extS _ (findF_mem hg) Γ.dom hΓ.dom args v hv w
              rw [denL_agree (n := 0) (σ := σ0) (σ' := σ) (fun b hb => by omega) args hin0.1, this, ← SV.den_agree (n := 0) (σ := σ0) (σ' := σ) (fun b hb => by omega) v hin0.2]
              exact good_same hr (SV.inside_mono (Nat.zero_le _) v hin0.2)
            · cases h
          · cases h
      · rename_i c hb
        rw [enters hn hf hb]
        show Calls P f _ w _
        split at h
        · rename_i v hv
          split at hv
          · rename_i h0
            split at h
            · rename_i hv0
              cases h
              have := told_ok hΓ hv w
              rw [denL_agree (n := 0) (σ := σ0) (σ' := σ) (fun b hb => by omega) args h0]
              exact Calls.mono this fun e w' ⟨he, hbl⟩ => ⟨_, he, good_below hr hv0 hbl⟩
            · cases h
          · cases hv
        · split at h
          · rename_i r' hr'
            cases h
            exact toldH_ok hΓ hr hr'
          split at h
          · cases h
          · rename_i e T' H' W' hne hC
            obtain ⟨vs, hvs, rfl⟩ := Option.map_eq_some_iff.1 h
            refine (callsIn_wide (n := 0)).1 (callsIn_of_wp_marks hf hb trivial ?_)
            refine evC_ok hm hn hΓ hΛ (evF_ok hm hn hΓ hΛ d) 1000 [] c _ H _ (by simp [codeAt, sub, hf, hb]) hC none 0 w.heap.size [] σ _ w _ ?_ hr Marks.none ?_
            · refine ⟨fun t _ => ?_, fun v hv => ?_, by simp [denL_length], rfl⟩
              · simp only [List.getD_eq_getElem?_getD, Array.getD_eq_getD_getElem?, Array.getElem?_append, List.getElem?_append, List.size_toArray, denL_length]
                split
                · rename_i hlt
                  simp [denL_map, hlt]
                · by_cases h3 : t - args.length < fn.ntmps - args.length
                  · simp [h3, uS_den]
                  · simp [h3, uS_den]
              · rcases List.mem_append.1 hv with hv | hv
                · exact insideL_mem hin hv
                · rw [(List.mem_replicate.1 hv).2]; rfl
            · intro ds' σ' a' w' hp hT' hM'
              rw [← hT'.defers] at hM'
              have hL := fun R hR => hM'.leaves (F := Fence.wide) (n := 0) (fn := fn) (tmps := a'.tmps) (R := R) hp hR
              cases e with
              | exit id => exact absurd rfl (hne id)
              | normal => exact hL _ fun w2 hp2 => ⟨_, (results_ok hT' hp2.rel hvs).1, _, rfl, endCall_ok hr hp2 (results_ok hT' hp2.rel hvs).2⟩
              | ret => exact hL _ fun w2 hp2 => ⟨_, (results_ok hT' hp2.rel hvs).1, _, rfl, endCall_ok hr hp2 (results_ok hT' hp2.rel hvs).2⟩
          · cases h

/-- What the symbolic machine finds of a function, the model's machine does: the value, and no block that was there is written. -/
theorem calls_of_evL (hm : P.follows .mixedOrders = true) (hn : namesOk P = true) (hΓ : Γ.Holds P ρ) {Λ : List LoopF} (hΛ : ∀ l ∈ Λ, l.Ok P ρ) {lf d : Nat} {f : FuncId} {args : List SV} {v : SV} {H' : Hp} (h : evF P Γ Λ lf d f args [] = some (v, H', [])) (hv : v.inside 0 = true) (hin : insideL 0 args = true)
    (hb : ((P.funcs[f]?).bind (·.body)).isSome = true) (w : World) : Calls P f (denL ρ σ0 args).toArray w fun e w' => e = .returned (v.den ρ σ0) ∧ Below w.heap.size w w' := by
  have hr : HRel P ρ σ0 [] w := ⟨fun b x h => by simp at h, fun b b' x x' h => by simp at h⟩
  have := evF_ok hm hn hΓ hΛ d f args [] _ h σ0 w hr hin
  have hy : Nat.beq f yieldF = false := notY hn hb
  rw [callY_ne hy] at this
  obtain ⟨fn, hf⟩ : ∃ fn, P.funcs[f]? = some fn := by
    cases hf : P.funcs[f]? with
    | none => rw [hf] at hb; cases hb
    | some fn => exact ⟨fn, rfl⟩
  rw [hf] at hb
  obtain ⟨c, hc⟩ := Option.isSome_iff_exists.1 hb
  rw [enters hn hf (by simpa using hc)] at this
  refine Calls.mono this fun e w' ⟨u, he, σ', hp, hu, _⟩ => ⟨?_, hp.os, hp.tape, hp.out, hp.size, fun k hk => hp.frame k hk fun b hb => by cases hb⟩
  rw [he, hu, SV.den_agree (n := 0) (fun b hb => by omega) v hv]
theorem calls_of_ev (hm : P.follows .mixedOrders = true) (hn : namesOk P = true) (hΓ : Γ.Holds P ρ) {lf d : Nat} {f : FuncId} {args : List SV} {v : SV} {H' : Hp} (h : evF P Γ [] lf d f args [] = some (v, H', [])) (hv : v.inside 0 = true) (hin : insideL 0 args = true)
    (hb : ((P.funcs[f]?).bind (·.body)).isSome = true) (w : World) : Calls P f (denL ρ σ0 args).toArray w fun e w' => e = .returned (v.den ρ σ0) ∧ Below w.heap.size w w' :=
  calls_of_evL hm hn hΓ (Λ := []) (fun _ h => by cases h) h hv hin hb w
end Go.Proofs.Ytgdhpgjfebinhaa.Ev
