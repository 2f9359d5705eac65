/- Regions that draw their order: whatever order is drawn, they leave what the order of the text leaves, if operations that touch the same place wait for one another. -/
import Derived.Test.YtgdhpgjfebinhaaFvj
namespace Go.Proofs.Ytgdhpgjfebinhaa.Ev
set_option linter.unusedSimpArgs false
open Go Go.RowKit
set_option linter.unusedVariables false
variable {P : Program} {ρ : Env} {Γ : Facts}

mutual
/-- All blocks that a value names are such ones. -/
def SV.on (p : Nat → Bool) : SV → Bool
  | .ptr (some a) => p a.block
  | .slice (some a) _ _ => p a.block
  | .vec b _ => p b
  | .asl b _ => p b
  | .eptr b _ _ _ => p b
  | .yld b => p b
  | .vsl b _ _ _ => p b
  | .rsl b _ _ _ => p b
  | .func _ f c => onL p f && onL p c
  | .iface _ v => v.on p
  | .agg l => onL p l
  | .tuple l => onL p l
  | _ => true
def onL (p : Nat → Bool) : List SV → Bool
  | [] => true
  | v :: l => v.on p && onL p l
end
mutual
theorem SV.on_mono {p q : Nat → Bool} (h : ∀ b, p b = true → q b = true) : ∀ v : SV, v.on p = true → v.on q = true
  | .ptr (some a), hv => h _ hv
  | .slice (some a) _ _, hv => h _ hv
  | .vec b _, hv => h _ hv
  | .asl b _, hv => h _ hv
  | .eptr b _ _ _, hv => h _ hv
  | .yld b, hv => h _ hv
  | .vsl b _ _ _, hv => h _ hv
  | .rsl b _ _ _, hv => h _ hv
  | .func _ f c, hv => by simp only [SV.on, Bool.and_eq_true] at hv ⊢; exact ⟨onL_mono h f hv.1, onL_mono h c hv.2⟩
  | .iface _ v, hv => by simp only [SV.on] at hv ⊢; exact v.on_mono h hv
  | .agg l, hv => by simp only [SV.on] at hv ⊢; exact onL_mono h l hv
  | .tuple l, hv => by simp only [SV.on] at hv ⊢; exact onL_mono h l hv
  | .ptr none, _ => rfl
  | .slice none _ _, _ => rfl
  | .bool _, _ => rfl
  | .int _ _, _ => rfl
  | .float _ _, _ => rfl
  | .complex _ _ _, _ => rfl
  | .str _, _ => rfl
  | .strv _, _ => rfl
  | .strn _, _ => rfl
  | .any _, _ => rfl
  | .nilFunc, _ => rfl
  | .nilIface, _ => rfl
theorem onL_mono {p q : Nat → Bool} (h : ∀ b, p b = true → q b = true) : ∀ l : List SV, onL p l = true → onL q l = true
  | [], _ => rfl
  | v :: l, hv => by simp only [onL, Bool.and_eq_true] at hv ⊢; exact ⟨v.on_mono h hv.1, onL_mono h l hv.2⟩
end
mutual
theorem SV.on_inside {n : Nat} : ∀ v : SV, v.on (fun b => decide (b < n)) = v.inside n
  | .ptr (some a) => rfl
  | .slice (some a) _ _ => rfl
  | .vec b _ => rfl
  | .asl b _ => rfl
  | .eptr b _ _ _ => rfl
  | .yld b => rfl
  | .vsl b _ _ _ => rfl
  | .rsl b _ _ _ => rfl
  | .func _ f c => by simp only [SV.on, SV.inside, onL_inside f, onL_inside c]
  | .iface _ v => by simp only [SV.on, SV.inside, v.on_inside]
  | .nilIface => rfl
  | .agg l => by simp only [SV.on, SV.inside, onL_inside l]
  | .tuple l => by simp only [SV.on, SV.inside, onL_inside l]
  | .ptr none => rfl
  | .slice none _ _ => rfl
  | .bool _ => rfl
  | .int _ _ => rfl
  | .float _ _ => rfl
  | .complex _ _ _ => rfl
  | .str _ => rfl
  | .strv _ => rfl
  | .strn _ => rfl
  | .any _ => rfl
  | .nilFunc => rfl
theorem onL_inside {n : Nat} : ∀ l : List SV, onL (fun b => decide (b < n)) l = insideL n l
  | [] => rfl
  | v :: l => by simp only [onL, insideL, v.on_inside, onL_inside l]
end
/-- Two placings agree on such blocks. -/
def Sg.agreeOn (p : Nat → Prop) (σ σ' : Sg) : Prop := ∀ b, p b → σ'.blk b = σ.blk b ∧ σ'.cap b = σ.cap b ∧ σ'.off b = σ.off b ∧ σ'.gh b = σ.gh b
theorem Sg.agreeOn.addr {p : Nat → Prop} {σ σ' : Sg} (h : σ.agreeOn p σ') {a : Addr} (ha : p a.block) : σ'.addr a = σ.addr a := by
  unfold Sg.addr; rw [(h _ ha).1]
mutual
theorem SV.den_agreeOn {p : Nat → Bool} {σ σ' : Sg} (h : σ.agreeOn (fun b => p b = true) σ') : ∀ v : SV, v.on p = true → v.den ρ σ' = v.den ρ σ
  | .ptr (some a), hs => by simp only [SV.den, Option.map_some]; rw [h.addr hs]
  | .slice (some a) _ _, hs => by simp only [SV.den, Option.map_some]; rw [h.addr hs]
  | .vec b _, hs => by simp only [SV.den]; rw [(h b hs).1, (h b hs).2.1]
  | .asl b _, hs => by simp only [SV.den]; rw [(h b hs).1, (h b hs).2.1, (h b hs).2.2.1, (h b hs).2.2.2]
  | .eptr b _ _ _, hs => by simp only [SV.den]; rw [(h b hs).1, (h b hs).2.2.1]
  | .yld b, hs => by simp only [SV.den]; rw [(h b hs).1]
  | .vsl b _ _ _, hs => by simp only [SV.den]; rw [(h b hs).1, (h b hs).2.1]
  | .rsl b _ _ _, hs => by simp only [SV.den]; rw [(h b hs).1, (h b hs).2.1, (h b hs).2.2.1, (h b hs).2.2.2]
  | .func _ f c, hs => by simp only [SV.on, Bool.and_eq_true] at hs; simp only [SV.den, denL_agreeOn h f hs.1, denL_agreeOn h c hs.2]
  | .iface _ v, hs => by simp only [SV.on] at hs; simp only [SV.den, v.den_agreeOn h hs]
  | .agg l, hs => by simp only [SV.on] at hs; simp only [SV.den, denL_agreeOn h l hs]
  | .tuple l, hs => by simp only [SV.on] at hs; simp only [SV.den, denL_agreeOn h l hs]
  | .ptr none, _ => rfl
  | .slice none _ _, _ => rfl
  | .bool _, _ => rfl
  | .int _ _, _ => rfl
  | .float _ _, _ => rfl
  | .complex _ _ _, _ => rfl
  | .str _, _ => rfl
  | .strv _, _ => rfl
  | .strn _, _ => rfl
  | .any _, _ => rfl
  | .nilFunc, _ => rfl
  | .nilIface, _ => rfl
theorem denL_agreeOn {p : Nat → Bool} {σ σ' : Sg} (h : σ.agreeOn (fun b => p b = true) σ') : ∀ l : List SV, onL p l = true → denL ρ σ' l = denL ρ σ l
  | [], _ => rfl
  | v :: l, hs => by simp only [onL, Bool.and_eq_true] at hs; simp only [denL, v.den_agreeOn h hs.1, denL_agreeOn h l hs.2]
end

/-- The blocks of M alone. -/
def maskF (M : List Nat) : Nat → Hp → Hp
  | _, [] => []
  | k, x :: l => (if M.contains k then x else none) :: maskF M (k + 1) l
theorem maskF_get (M : List Nat) : ∀ (l : Hp) (k b : Nat), (maskF M k l)[b]? = (l[b]?).map fun x => if M.contains (k + b) then x else none
  | [], k, b => by simp [maskF]
  | x :: l, k, 0 => by simp [maskF]
  | x :: l, k, b + 1 => by simp [maskF, maskF_get M l (k + 1) b, Nat.add_assoc, Nat.add_comm 1 b]
theorem maskF_length (M : List Nat) : ∀ (l : Hp) (k : Nat), (maskF M k l).length = l.length
  | [], k => rfl
  | x :: l, k => by simp [maskF, maskF_length M l]
theorem mask_some {M : List Nat} {H : Hp} {b : Nat} {x : Blk} (h : (maskF M 0 H)[b]? = some (some x)) : b ∈ M ∧ H[b]? = some (some x) := by
  rw [maskF_get] at h
  obtain ⟨y, hy, h⟩ := Option.map_eq_some_iff.1 h
  split at h
  · rename_i hm; subst h; exact ⟨by simpa using hm, hy⟩
  · cases h
theorem some_mask {M : List Nat} {H : Hp} {b : Nat} {x : Blk} (hb : b ∈ M) (h : H[b]? = some (some x)) : (maskF M 0 H)[b]? = some (some x) := by
  rw [maskF_get, h]
  simp [hb]

/-- Of the first heap's blocks those of W, and all later ones, are the second one's. -/
def mergeF (W : List Nat) : Nat → Hp → Hp → Hp
  | k, x :: l, y :: r => (if W.contains k then y else x) :: mergeF W (k + 1) l r
  | _, [], r => r
  | _, l, [] => l
theorem mergeF_length (W : List Nat) : ∀ (l r : Hp) (k : Nat), l.length ≤ r.length → (mergeF W k l r).length = r.length
  | [], r, k, _ => by cases r <;> simp [mergeF]
  | x :: l, [], k, h => by simp at h
  | x :: l, y :: r, k, h => by simp [mergeF, mergeF_length W l r (k + 1) (by simpa using h)]
theorem mergeF_get (W : List Nat) : ∀ (l r : Hp) (k b : Nat), l.length ≤ r.length → (mergeF W k l r)[b]? = if b < l.length ∧ W.contains (k + b) = false then l[b]? else r[b]?
  | [], r, k, b, _ => by cases r <;> simp [mergeF]
  | x :: l, [], k, b, h => by simp at h
  | x :: l, y :: r, k, 0, h => by
    simp only [mergeF, List.getElem?_cons_zero, Nat.add_zero, List.length_cons, Nat.zero_lt_succ, true_and]
    cases W.contains k <;> simp
  | x :: l, y :: r, k, b + 1, h => by
    simp only [mergeF, List.getElem?_cons_succ, List.length_cons, Nat.add_lt_add_iff_right]
    rw [mergeF_get W l r (k + 1) b (by simpa using h), show k + 1 + b = k + (b + 1) by omega]

mutual
/-- The blocks that a value names. -/
def SV.ids : SV → List Nat
  | .ptr (some a) => [a.block]
  | .slice (some a) _ _ => [a.block]
  | .vec b _ => [b]
  | .asl b _ => [b]
  | .eptr b _ _ _ => [b]
  | .yld b => [b]
  | .vsl b _ _ _ => [b]
  | .rsl b _ _ _ => [b]
  | .func _ f c => idsL f ++ idsL c
  | .iface _ v => v.ids
  | .agg l => idsL l
  | .tuple l => idsL l
  | _ => []
def idsL : List SV → List Nat
  | [] => []
  | v :: l => v.ids ++ idsL l
end
/-- All blocks that can be come to. -/
def reach (H : Hp) : Nat → List Nat → List Nat → List Nat
  | 0, _, acc => acc
  | f + 1, todo, acc => match todo with
    | [] => acc
    | b :: todo => if acc.contains b then reach H f todo acc else reach H f ((match getB H b with | some x => idsL x.cells | none => []) ++ todo) (b :: acc)

/-- One operation of a region, in the order of the text: what was before it, whether it is wanted, which blocks it sees, what it yields, leaves and writes. -/
structure TrI where
  T : List SV
  H : Hp
  g : Bool
  M : List Nat
  N : List Nat
  v : SV
  Hm : Hp
  W : List Nat
  q : Bool := false
  deriving Inhabited

def mayB (H Hm : Hp) (M : List Nat) (b : Nat) : Bool := M.contains b || (decide (H.length ≤ b) && decide (b < Hm.length))
def newOk (p : Nat → Bool) (Hm : Hp) (bs : List Nat) : Bool := bs.all fun b => match getB Hm b with
  | some x => onL p x.cells
  | none => true
def trOk (H Hm : Hp) (M N W : List Nat) (v : SV) : Bool :=
  decide (H.length ≤ Hm.length) && (M.all (fun b => decide (b < H.length)) && (N.all (fun b => decide (b < H.length)) && (W.all (fun b => M.contains b && (match getB H b with | some y => !y.shd | none => false)) && (v.on (mayB H Hm N) && (newOk (mayB H Hm N) Hm W && newOk (mayB H Hm N) Hm (List.range' H.length (Hm.length - H.length)))))))

/-- An operation, seeing only these blocks. -/
def opTry (P : Program) (Γ : Facts) (call : CallF) (T : List SV) (H : Hp) (o : Oper) (N M : List Nat) : Option (List Nat × Out) := match evOp P Γ call T (maskF M 0 H) o with
  | some (v, Hm, W) => if trOk H Hm M N W v = true then some (M, v, Hm, W) else none
  | none => none
/-- The blocks that an operation is likely to see. -/
def sees (T : List SV) (o : Oper) (N : List Nat) : List Nat := match o.op with
  | .call _ => N
  | .load _ a => (match evO T a with | some v => v.ids | none => N)
  | .store _ a _ => (match evO T a with | some v => v.ids | none => N)
  | .fieldAddr .. | .indexAddr .. | .nilCheck _ | .slice .. | .move _ | .assign _ | .build .. | .makeFunc .. | .binOp .. | .unOp .. | .convert .. | .field .. | .index .. | .extract .. | .makeInterface .. | .pick .. => []
  | _ => N
def opM (P : Program) (Γ : Facts) (call : CallF) (T : List SV) (H : Hp) (o : Oper) (N : List Nat) : Option (List Nat × Out) := match opTry P Γ call T H o N ((sees T o N).filter fun b => decide (b < H.length)) with
  | some r => some r
  | none => if (sees T o N).length = N.length then none else opTry P Γ call T H o N N
theorem opTry_ok {call : CallF} {T : List SV} {H : Hp} {o : Oper} {N M0 M : List Nat} {v : SV} {Hm : Hp} {W : List Nat} (h : opTry P Γ call T H o N M0 = some (M, v, Hm, W)) : evOp P Γ call T (maskF M 0 H) o = some (v, Hm, W) ∧ trOk H Hm M N W v = true := by
  unfold opTry at h
  split at h
  · rename_i v' Hm' W' ho
    split at h
    · rename_i hok; cases h; exact ⟨ho, hok⟩
    · cases h
  · cases h
theorem opM_ok {call : CallF} {T : List SV} {H : Hp} {o : Oper} {N M : List Nat} {v : SV} {Hm : Hp} {W : List Nat} (h : opM P Γ call T H o N = some (M, v, Hm, W)) : evOp P Γ call T (maskF M 0 H) o = some (v, Hm, W) ∧ trOk H Hm M N W v = true := by
  unfold opM at h
  split at h
  · rename_i r hr; cases h; exact opTry_ok hr
  · split at h
    · cases h
    · exact opTry_ok h

/-- Operations that look at no memory. -/
def evPure (P : Program) (Γ : Facts) (T : List SV) (o : Oper) : Option SV := match o.op with
  | .move x => evO T x
  | .assign x => evO T x
  | .pick c x y => (match evO T c with
    | some (.bool c) => (match res Γ c with
      | some true => evO T x
      | some false => evO T y
      | none => none)
    | _ => none)
  | .binOp op t x y _ => (evO T x).bind fun X => (evO T y).bind fun Y => evBin P Γ op t x y X Y
  | .unOp op _ x => (evO T x).bind fun X => evUn Γ op X
  | .convert s d x => (evO T x).bind fun X => evConv P Γ s d X
  | .field t x f => (evO T x).bind fun X => evFieldV P t X f
  | .index t x i => (evO T x).bind fun X => (evO T i).bind fun I => evIndex P t X I
  | .extract x i => (evO T x).bind fun X => evExtract X i
  | _ => none
theorem evPure_ok {T : List SV} {o : Oper} {v : SV} (h : evPure P Γ T o = some v) (call : CallF) (H : Hp) : evOp P Γ call T H o = some (v, H, []) := by
  obtain ⟨dst, op, ty, pos, after, guard⟩ := o
  unfold evPure at h
  suffices h0 : evOp0 P Γ call T H ⟨dst, op, ty, pos, after, guard⟩ = some (v, H, []) by unfold evOp; rw [h0]
  unfold evOp0
  cases op <;> simp only at h <;> try (cases h; done)
  case pick c x y =>
    simp only
    split at h
    · rename_i e1
      rw [e1]
      simp only
      split at h
      · rename_i e2; rw [e2]; simp [h]
      · rename_i e2; rw [e2]; simp [h]
      · cases h
    · cases h
  all_goals simp only [h, Option.map_some]
theorem mergeF_mask (H : Hp) : mergeF [] 0 H (maskF [] 0 H) = H := by
  apply List.ext_getElem?
  intro b
  rw [mergeF_get [] H _ 0 b (by rw [maskF_length]; exact Nat.le_refl _)]
  split
  · rfl
  · rename_i hn
    have : H.length ≤ b := by
      rcases Nat.lt_or_ge b H.length with h | h
      · exact absurd ⟨h, rfl⟩ hn
      · exact h
    rw [List.getElem?_eq_none (by rw [maskF_length]; exact this), List.getElem?_eq_none this]

def evTr (P : Program) (Γ : Facts) (call : CallF) (ops : Array Oper) : List Oper → List SV → Hp → Option (List TrI × List SV × Hp)
  | [], T, H => some ([], T, H)
  | o :: l, T, H => match evGuard Γ ops T o.guard with
    | some true => (match (match evPure P Γ T o with | some v => if v.inside 0 then some v else none | none => none) with
      | some v => (match evTr P Γ call ops l (stepT T o.dst v) H with
          | some (L, T2, H2) => some (⟨T, H, true, [], [], v, maskF [] 0 H, [], true⟩ :: L, T2, H2)
          | none => none)
      | none =>
        let N := (reach H 64 (idsL ((evOs T o.op.operands.toList).getD [])) []).filter fun b => decide (b < H.length)
        (match opM P Γ call T H o N with
        | some (M, v, Hm, W) => (match evTr P Γ call ops l (stepT T o.dst v) (mergeF W 0 H Hm) with
            | some (L, T2, H2) => some (⟨T, H, true, M, N, v, Hm, W, W.isEmpty && Nat.beq H.length Hm.length⟩ :: L, T2, H2)
            | none => none)
        | none => none))
    | some false => (match evTr P Γ call ops l (stepT T o.dst uS) H with
          | some (L, T2, H2) => some (⟨T, H, false, [], [], uS, H, [], true⟩ :: L, T2, H2)
          | none => none)
    | none => none

/-- What is so of an operation of the region. -/
structure TrOk (P : Program) (Γ : Facts) (call : CallF) (ops : Array Oper) (o : Oper) (x : TrI) (T' : List SV) (H' : Hp) : Prop where
  guard : evGuard Γ ops x.T o.guard = some x.g
  run : x.g = true → evOp P Γ call x.T (maskF x.M 0 x.H) o = some (x.v, x.Hm, x.W)
  off : x.g = false → x.v = uS ∧ x.Hm = x.H ∧ x.W = [] ∧ x.M = []
  nlt : ∀ b ∈ x.N, b < x.H.length
  len : x.H.length ≤ x.Hm.length
  mlt : ∀ b ∈ x.M, b < x.H.length
  wlive : ∀ b ∈ x.W, b ∈ x.M ∧ ∃ y, x.H[b]? = some (some y) ∧ y.shd = false
  von : x.v.on (mayB x.H x.Hm x.N) = true
  won : ∀ b y, (b ∈ x.W ∨ x.H.length ≤ b) → x.Hm[b]? = some (some y) → onL (mayB x.H x.Hm x.N) y.cells = true
  next : T' = stepT x.T o.dst x.v
  nextH : H' = mergeF x.W 0 x.H x.Hm
  quiet : x.q = true → x.W = [] ∧ x.Hm.length = x.H.length

theorem some_getB {H : Hp} {b : Nat} {x : Blk} (h : H[b]? = some (some x)) : getB H b = some x := by simp [getB, h]

theorem trOk_ok {H Hm : Hp} {M N W : List Nat} {v : SV} (h : trOk H Hm M N W v = true) :
    H.length ≤ Hm.length ∧ (∀ b ∈ M, b < H.length) ∧ (∀ b ∈ N, b < H.length) ∧ (∀ b ∈ W, b ∈ M ∧ ∃ y, H[b]? = some (some y) ∧ y.shd = false) ∧ v.on (mayB H Hm N) = true ∧ ∀ b y, (b ∈ W ∨ H.length ≤ b) → Hm[b]? = some (some y) → onL (mayB H Hm N) y.cells = true := by
  simp only [trOk, Bool.and_eq_true, decide_eq_true_eq] at h
  obtain ⟨h1, h2, h2', h3, h4, h5, h6⟩ := h
  have nk : ∀ {bs : List Nat}, newOk (mayB H Hm N) Hm bs = true → ∀ b ∈ bs, ∀ y, Hm[b]? = some (some y) → onL (mayB H Hm N) y.cells = true := by
    intro bs hn b hb y hy
    have := List.all_eq_true.1 hn b hb
    rw [some_getB hy] at this
    exact this
  refine ⟨h1, fun b hb => of_decide_eq_true (List.all_eq_true.1 h2 b hb), fun b hb => of_decide_eq_true (List.all_eq_true.1 h2' b hb), fun b hb => ?_, h4, fun b y hb hy => ?_⟩
  · have := List.all_eq_true.1 h3 b hb
    simp only [Bool.and_eq_true] at this
    obtain ⟨t1, t2⟩ := this
    split at t2
    · rename_i y hy
      exact ⟨by simpa using t1, y, getB_some hy, by simpa using t2⟩
    · cases t2
  · rcases hb with hb | hb
    · exact nk h5 b hb y hy
    · refine nk h6 b (List.mem_range'_1.2 ⟨hb, ?_⟩) y hy
      have := (List.getElem?_eq_some_iff.1 hy).1
      omega

theorem mergeF_nil (H : Hp) : mergeF [] 0 H H = H := by
  apply List.ext_getElem?
  intro b
  rw [mergeF_get [] H H 0 b (Nat.le_refl _)]
  split <;> rfl

theorem offNew (H : Hp) (b : Nat) (y : Blk) (hb : b ∈ ([] : List Nat) ∨ H.length ≤ b) (hy : H[b]? = some (some y)) : onL (mayB H H []) y.cells = true := by
  rcases hb with hb | hb
  · cases hb
  · rw [List.getElem?_eq_none hb] at hy; cases hy
theorem evTr_ok {call : CallF} {ops : Array Oper} : ∀ {l : List Oper} {T : List SV} {H : Hp} {L : List TrI} {T2 : List SV} {H2 : Hp}, evTr P Γ call ops l T H = some (L, T2, H2) →
    L.length = l.length ∧ (∀ x, L[0]? = some x → x.T = T ∧ x.H = H) ∧ (L = [] → T2 = T ∧ H2 = H) ∧
    ∀ i o x, l[i]? = some o → L[i]? = some x → TrOk P Γ call ops o x ((L[i + 1]?).elim T2 (·.T)) ((L[i + 1]?).elim H2 (·.H))
  | [], T, H, L, T2, H2, h => by
    simp only [evTr] at h; cases h
    exact ⟨rfl, fun x hx => by simp at hx, fun _ => ⟨rfl, rfl⟩, fun i o x ho _ => by simp at ho⟩
  | o :: l, T, H, L, T2, H2, h => by
    have fin : ∀ {x : TrI} {L' : List TrI} {T1 : List SV} {H1 : Hp}, evTr P Γ call ops l T1 H1 = some (L', T2, H2) → x.T = T → x.H = H → TrOk P Γ call ops o x T1 H1 → L = x :: L' →
        L.length = (o :: l).length ∧ (∀ x, L[0]? = some x → x.T = T ∧ x.H = H) ∧ (L = [] → T2 = T ∧ H2 = H) ∧
        ∀ i o' x, (o :: l)[i]? = some o' → L[i]? = some x → TrOk P Γ call ops o' x ((L[i + 1]?).elim T2 (·.T)) ((L[i + 1]?).elim H2 (·.H)) := by
      intro x L' T1 H1 hr hT hH hx hL
      subst hL
      obtain ⟨e1, e2, e3, e4⟩ := evTr_ok hr
      refine ⟨by simp [e1], fun y hy => by simp at hy; subst hy; exact ⟨hT, hH⟩, (fun h => by cases h), fun i o' y ho hy => ?_⟩
      cases i with
      | zero =>
        simp at ho hy
        subst ho; subst hy
        cases hl : L'[0]? with
        | none =>
          have : L' = [] := by
            cases L' with
            | nil => rfl
            | cons a b => simp at hl
          obtain ⟨q1, q2⟩ := e3 this
          simp [hl, q1, q2]; exact hx
        | some z =>
          obtain ⟨q1, q2⟩ := e2 z hl
          simp [hl, q1, q2]; exact hx
      | succ i =>
        simp at ho hy ⊢
        exact e4 i o' y ho hy
    simp only [evTr] at h
    split at h
    · rename_i hg
      split at h
      · rename_i v hv
        have hv' : evPure P Γ T o = some v ∧ v.inside 0 = true := by
          split at hv
          · split at hv
            · cases hv; rename_i hp hi; exact ⟨hp, hi⟩
            · cases hv
          · cases hv
        split at h
        · rename_i L' T2' H2' hr
          cases h
          refine fin hr rfl rfl ⟨hg, fun _ => evPure_ok hv'.1 call _, (fun h => by cases h), (fun b hb => by cases hb), by rw [maskF_length]; exact Nat.le_refl _, (fun b hb => by cases hb), (fun b hb => by cases hb), ?_, fun b y hb hy => ?_, rfl, (mergeF_mask H).symm, fun _ => ⟨rfl, maskF_length _ _ _⟩⟩ rfl
          · have := hv'.2
            rw [← SV.on_inside] at this
            exact SV.on_mono (fun b hb => by simp at hb) _ this
          · rcases hb with hb | hb
            · cases hb
            · simp only at hy hb
              rw [List.getElem?_eq_none (by rw [maskF_length]; exact hb)] at hy; cases hy
        · cases h
      · split at h
        · rename_i M v Hm W ho
          split at h
          · rename_i L' T2' H2' hr
            cases h
            obtain ⟨p1, p2⟩ := opM_ok ho
            obtain ⟨q1, q2, q2', q3, q4, q5⟩ := trOk_ok p2
            refine fin hr rfl rfl ⟨hg, fun _ => p1, (fun h => by cases h), q2', q1, q2, q3, q4, q5, rfl, rfl, fun hq => ?_⟩ rfl
            simp only [Bool.and_eq_true, List.isEmpty_iff] at hq
            exact ⟨hq.1, (Nat.eq_of_beq_eq_true hq.2).symm⟩
          · cases h
        · cases h
    · rename_i hg
      split at h
      · rename_i L' T2' H2' hr
        cases h
        exact fin hr rfl rfl ⟨hg, (fun h => by cases h), fun _ => ⟨rfl, rfl, rfl, rfl⟩, (fun b hb => by cases hb), Nat.le_refl _, (fun b hb => by cases hb), (fun b hb => by cases hb), rfl, offNew H, rfl, (mergeF_nil H).symm, fun _ => ⟨rfl, rfl⟩⟩ rfl
      · cases h
    · cases h

/-- A place's content when so many operations, of those that are done, have come up. -/
def cont {X : Type} (D wr : Nat → Bool) (val : Nat → X) : Nat → X
  | 0 => val 0
  | i + 1 => if D i = true ∧ wr i = true then val (i + 1) else cont D wr val i
theorem cont_now {X : Type} {D wr : Nat → Bool} {val : Nat → X} : ∀ (j : Nat), (∀ i, i < j → wr i = true → D i = true) → (∀ i, i < j → wr i = false → val (i + 1) = val i) → cont D wr val j = val j
  | 0, _, _ => rfl
  | j + 1, h1, h2 => by
    simp only [cont]
    split
    · rfl
    · rename_i hc
      have hw : wr j = false := by
        cases hw : wr j with
        | false => rfl
        | true => exact absurd ⟨h1 j (by omega) hw, hw⟩ hc
      rw [h2 j (by omega) hw]
      exact cont_now j (fun i hi => h1 i (by omega)) (fun i hi => h2 i (by omega))
theorem cont_later {X : Type} {D wr : Nat → Bool} {val : Nat → X} {j : Nat} : ∀ (n : Nat), j ≤ n → (∀ i, j ≤ i → i < n → wr i = true → D i = false) → cont D wr val n = cont D wr val j
  | 0, h, _ => by rw [Nat.le_zero.1 h]
  | n + 1, h, h1 => by
    by_cases e : j = n + 1
    · rw [e]
    · simp only [cont]
      rw [if_neg (fun hc => by have := h1 n (by omega) (by omega) hc.2; rw [this] at hc; cases hc.1)]
      exact cont_later n (by omega) fun i hi hn => h1 i hi (by omega)
theorem cont_congr {X : Type} {D D' wr : Nat → Bool} {val : Nat → X} : ∀ (n : Nat), (∀ i, i < n → wr i = true → D i = D' i) → cont D wr val n = cont D' wr val n
  | 0, _ => rfl
  | n + 1, h => by
    simp only [cont]
    rw [cont_congr n fun i hi => h i (by omega)]
    cases hw : wr n with
    | false => simp
    | true => rw [h n (by omega) hw]

/-- The operations that each one waits for, directly or through others, as the bits of a number. -/
def ancL : List Oper → Array Nat → Array Nat
  | [], acc => acc
  | o :: l, acc => ancL l (acc.push (o.after.toList.foldl (fun s e => if Region.binds .any e then s ||| 2 ^ e.on ||| acc.getD e.on 0 else s) 0))
def backB : List Oper → Nat → Bool
  | [], _ => true
  | o :: l, k => o.after.toList.all (fun e => !Region.binds .any e || decide (e.on < k)) && backB l (k + 1)

/-- What is done is done behind what it waits for. -/
def Closed (ops : Array Oper) (D : Nat → Bool) : Prop := ∀ j o, ops[j]? = some o → D j = true → ∀ e ∈ o.after, Region.binds .any e = true → D e.on = true

theorem ancL_ok {ops : Array Oper} {D : Nat → Bool} (hD : Closed ops D) : ∀ (l : List Oper) (acc : Array Nat), (∀ i, l[i]? = ops[acc.size + i]?) → (∀ j i, j < acc.size → (acc.getD j 0).testBit i = true → D j = true → D i = true) →
    ∀ j i, ((ancL l acc).getD j 0).testBit i = true → D j = true → D i = true
  | [], acc, hl, ha, j, i, hb, hj => by
    simp only [ancL] at hb
    by_cases h : j < acc.size
    · exact ha j i h hb hj
    · simp [Array.getElem?_eq_none (Nat.le_of_not_lt h)] at hb
  | o :: l, acc, hl, ha, j, i, hb, hj => by
    simp only [ancL] at hb
    refine ancL_ok hD l _ (fun i => ?_) (fun j i hlt hb hj => ?_) j i hb hj
    · have := hl (i + 1)
      simp only [List.getElem?_cons_succ] at this
      rw [this, Array.size_push]; congr 1; omega
    · have ho : ops[acc.size]? = some o := by have := hl 0; simpa using this.symm
      by_cases h : j < acc.size
      · refine ha j i h ?_ hj
        simpa [Array.getElem?_push, Nat.ne_of_lt h] using hb
      · have hjs : j = acc.size := by simp at hlt; omega
        subst hjs
        simp only [Array.getD_eq_getD_getElem?, Array.getElem?_push_size, Option.getD_some] at hb
        have key : ∀ (es : List Edge) (s : Nat), (∀ e ∈ es, e ∈ o.after.toList) → (s.testBit i = true → D i = true) → (es.foldl (fun s e => if Region.binds .any e then s ||| 2 ^ e.on ||| acc.getD e.on 0 else s) s).testBit i = true → D i = true := by
          intro es
          induction es with
          | nil => intro s _ hs hb; exact hs hb
          | cons e es ih =>
            intro s hes hs hb
            refine ih _ (fun e' he' => hes e' (by simp [he'])) ?_ hb
            intro hb
            dsimp only at hb
            split at hb
            · rename_i hbind
              have hon := hD _ _ ho hj e (by simpa using hes e (by simp)) hbind
              simp only [Nat.testBit_or, Bool.or_eq_true, Nat.testBit_two_pow, decide_eq_true_eq] at hb
              rcases hb with (hb | hb) | hb
              · exact hs hb
              · rw [← hb]; exact hon
              · by_cases he : e.on < acc.size
                · exact ha e.on i he hb hon
                · simp [Array.getElem?_eq_none (Nat.le_of_not_lt he)] at hb
            · exact hs hb
        exact key _ 0 (fun e he => he) (by simp) (by simpa using hb)
end Go.Proofs.Ytgdhpgjfebinhaa.Ev
