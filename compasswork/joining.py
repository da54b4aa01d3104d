"""Two towers (compasswork.towers) made into one that has the numbers of both."""

from compasswork.bounds import positive
from compasswork.squares import adjoined, square_root
from compasswork.towers import element_product, element_sum, lowest, padded, times


def widened(element, size):
    return padded(element[0], size), element[1]


def image(tower, images, vector):
    """The vector in another tower, where images has the elements that the roots of its generators are there."""
    size = 1 << len(tower)
    half = len(vector) // 2
    if half == 0:
        return padded(vector, size), 1
    low = image(tower, images, vector[:half])
    if not any(vector[half:]):
        return low
    high = image(tower, images, vector[half:])
    root = widened(images[half.bit_length() - 1], size)
    return element_sum(low, element_product(tower, high, root))


def image_of_element(tower, images, element):
    vector, scale = image(tower, images, element[0])
    return lowest(vector, scale * element[1])


def joined(tower, other, most):
    """A tower that goes on from the first one and has the roots of the other one, and the images of these.

    None if it would have more generators than most.
    """
    images = []
    for generator in other:
        square = image(tower, images, generator)
        root = _known_root(tower, square)
        if root is None and len(tower) >= most:
            return None
        if root is None:
            tower, root = adjoined(tower, square)
        images.append(root)
    return tower, images


def _known_root(tower, square):
    """The root from 0 on of an element, or None if the tower has none."""
    vector, scale = square
    size = len(vector)
    if scale == 1:
        for k, generator in enumerate(tower):
            if padded(generator, size) == vector:
                return padded((0,) * (1 << k) + (1,), size), 1
    return root_in(tower, square)


def root_in(tower, square):
    """The root from 0 on of an element, or None if it is no square in the tower."""
    vector, scale = square
    found = square_root(tower, times(vector, scale))
    if found is None:
        return None
    return positive(tower, lowest(found[0], found[1] * scale))
