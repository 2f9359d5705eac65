package stack

import (
	"etalon/api"
	"etalon/text"
	"etalon/whole"
)

// thousand is the thousandths of all.
const thousand = 1000

// Layered returns the layers of a stack with the indices of materials.
func Layered(l []api.StackPart, m []api.StackMaterial) ([]api.Layer, api.Errno) {
	if _, e := CheckParts(l); e != api.OK {
		return nil, e
	}
	materials, e := byNames(m)
	if e != api.OK {
		return nil, e
	}
	var layers []api.Layer
	for layer := range unrolled(l) {
		x, there := materials[layer.Name]
		if !there {
			return nil, api.ErrMissing
		}
		layers = append(layers, api.Layer{Index: x.Index, Loss: x.Loss, Thick: layer.Thick})
	}
	return layers, api.OK
}

// byNames returns materials by their names, or their first error.
func byNames(m []api.StackMaterial) (map[string]api.StackMaterial, api.Errno) {
	if len(m) > api.MaxMaterials {
		return nil, api.ErrLarge
	}
	named := map[string]api.StackMaterial{}
	for _, x := range m {
		if !text.IsName(x.Name) {
			return nil, api.ErrName
		}
		if _, there := named[x.Name]; there {
			return nil, api.ErrExists
		}
		if !isMaterial(x.Index, x.Loss) {
			return nil, api.ErrRange
		}
		named[x.Name] = x
	}
	return named, api.OK
}

// isMaterial says whether an index and a loss are those of a material.
func isMaterial(index, loss int) bool {
	return whole.Within(index, api.LeastIndex, api.MaxIndex) && whole.Within(loss, 0, api.MaxIndex)
}

// Boxed returns layer boxes whose thicknesses may be wrong by thousandths.
func Boxed(l []api.Layer, thousandths int) ([]api.LayerBox, api.Errno) {
	if len(l) > api.MaxLayers {
		return nil, api.ErrLarge
	}
	for _, x := range l {
		if !isMaterial(x.Index, x.Loss) || !whole.Within(x.Thick, 0, api.MaxThick) {
			return nil, api.ErrRange
		}
	}
	if !whole.Within(thousandths, 0, thousand) {
		return nil, api.ErrRange
	}
	var boxes []api.LayerBox
	for _, x := range l {
		// The error is at most Thick, so no thickness comes below 0.
		wrong := whole.Upper(x.Thick, thousandths, thousand)
		if x.Thick+wrong > api.MaxThick {
			return nil, api.ErrLarge
		}
		boxes = append(boxes, api.LayerBox{
			Index: api.Range{Lo: x.Index, Hi: x.Index},
			Thick: api.Range{Lo: x.Thick - wrong, Hi: x.Thick + wrong},
			Loss:  x.Loss,
		})
	}
	return boxes, api.OK
}
