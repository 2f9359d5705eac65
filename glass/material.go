package glass

import (
	"etalon/api"
	"etalon/whole"
)

// material is what tables and formulas have in common. All but check is asked of right materials alone, told and group
// of wavelengths that they cover.
type material interface {
	// check returns the first error, with the number of its row.
	check() (int, api.Errno)
	covers(wave int) bool
	// told returns index and loss.
	told(wave int) [2]ratio
	// bends returns the wavelengths at which index or loss may turn from rising to falling, or back.
	bends() []int
	group(wave int) (ratio, api.Errno)
	// lines returns the lines of its text, behind that with its name.
	lines() []string
}

// materialOf returns a material by its kind, nil if that is none.
func materialOf(g api.Glass) material {
	switch g.Kind {
	case api.GlassTable:
		return table{g}
	case api.GlassCauchy:
		return formula{g}
	}
	return nil
}

// rightMaterial returns a material that has been checked.
func rightMaterial(g api.Glass) (material, api.Errno) {
	if _, e := CheckGlass(g); e != api.OK {
		return nil, e
	}
	return materialOf(g), api.OK
}

// materialAt returns a right material that tells something at a wavelength.
func materialAt(g api.Glass, wave int) (material, api.Errno) {
	m, e := rightMaterial(g)
	if e != api.OK {
		return nil, e
	}
	if !whole.Within(wave, api.LeastWave, api.MaxWave) {
		return nil, api.ErrRange
	}
	if !m.covers(wave) {
		return nil, api.ErrNone
	}
	return m, api.OK
}
